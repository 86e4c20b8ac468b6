/- For every slice of strings and every uint8: where the slice has at most 100 strings, the log of a new disk of 1000 sectors refuses it with ErrArg if it is none or one has not 512 bytes, with ErrBig if they are more than 64, and takes it otherwise; so many pages as the uint8 says are refused with ErrBig just if they are more than 64; a nil log answers ErrArg, 0, 0, ErrArg; the document's example of layer 9 holds: RedoRefuses answers true.
Conditions: none; every input that can be read is spoken of. -/
import Derived.Test.YtmincpmkiheofaaRows
import Derived.Test.YtmincpmkiheofaaBase
import Derived.Test.YtmincpmkiheofaaRdlB
import Derived.Test.YtmincpmkiheofaaRdlF
import Derived.WalkKit
import Derived.ProofKit
import Derived.OpenShut
import Derived.ShutString
import Derived.ChangeOld
import Derived.Below
import Derived.SliceStrings
namespace Go.Proofs.Ytmincpmkiheofaa.redoRefuses
open Go.ChangeShapes Go.WideShapes Go.ChangeAt Go.RowKit
open Go.ChangeMaps (open_string shut_string)
set_option linter.unusedVariables false

theorem strs_in {w : World} {a : Option Addr} {len cap : Nat} {zs : List ByteArray} (h : IsStrs w a len cap zs) : StrsIn w (fun b => b < w.heap.size) (.slice a len cap) (zs.take len) ∧ (zs.take len).length = len := by
  rcases h with ⟨rfl, rfl, rfl, rfl⟩ | ⟨x, rfl, h1, h2, h3, h4, h5⟩
  · exact ⟨StrsIn.nil _ _, rfl⟩
  · have hl : (zs.take len).length = len := by rw [List.length_take]; omega
    refine ⟨⟨some x, cap, by rw [hl], by omega, h2, fun s hs => h5 s (List.mem_of_mem_take hs), ?_⟩, hl⟩
    by_cases h0 : len = 0
    · left; subst h0; simp
    · right
      have c0 := h4 0 (by omega)
      have hs := add_spot (cell_spot c0)
      refine ⟨x.block, x.off, congrArg some (addr_plain hs 0).1, ?_, ?_, fun i hi => ?_⟩
      · rw [(addr_plain hs 0).2] at c0; exact cell_lt c0
      · rw [(addr_plain hs 0).2] at c0; exact cell_lt c0
      · rw [hl] at hi
        have := h4 i (by omega)
        rw [(addr_plain hs i).2] at this
        rw [this]
        simp [List.getD_eq_getElem?_getD, h3, show i < cap by omega]
/-- what the first Append answers -/
theorem first_ (s : St) (l : LogS) (ps : List ByteArray) (hk : l.Ok) (hfit : l.from_ + l.size ≤ 1000) (h2 : l.failed = false) (h4 : 1 + 9 * 64 ≤ l.size - l.used) (h5 : s.down = false) (h6 : s.fuse < 0) :
    ∃ s1 l1, ares 1000 s l ps = ((if arePg ps = false then 1 else if 64 < ps.length then 10 else 0), s1, l1) ∧ l1.failed = false ∧ s1.down = false ∧ s1.fuse < 0 := by
  by_cases ha : arePg ps = false
  · refine ⟨s, l, ?_, h2, h5, h6⟩
    unfold ares; rw [if_pos ha, if_pos ha]
  · rw [if_neg ha]
    have ha : arePg ps = true := by simpa using ha
    by_cases hb : 64 < ps.length
    · refine ⟨s, l, ?_, h2, h5, h6⟩
      unfold ares
      rw [if_pos hb, if_neg (by rw [ha]; simp), if_neg (by rw [h2]; simp), if_pos hb]
    · rw [if_neg hb]
      obtain ⟨s', e, hd, -, hf⟩ := ares_good 1000 s l ps hk hfit ha h2 (by omega) (by omega) h5 h6
      exact ⟨s', _, e, h2, hd, by omega⟩
/-- what the second answers -/
theorem second_ (s : St) (l : LogS) (ps : List ByteArray) (hk : l.Ok) (hfit : l.from_ + l.size ≤ 1000) (h2 : l.failed = false) (h5 : s.down = false) (h6 : s.fuse < 0) (hsz : ∀ p ∈ ps, p.size = 512) :
    ((ares 1000 s l ps).1 = 10 ↔ 64 < ps.length) := by
  rcases ares_all 1000 s l ps hk hfit with ⟨h, e⟩ | ⟨-, h, -⟩ | ⟨-, -, h, e⟩ | ⟨-, -, h, -, e⟩ | ⟨-, -, -, -, h, -⟩ | ⟨s', -, -, h, -, -, -, -, -, -, e⟩ | ⟨s', -, -, -, -, -, -, -, h, -⟩
  · rw [e]
    have : ps = [] := by
      by_cases h0 : ps = []
      · exact h0
      · unfold arePg at h
        exact absurd ⟨h0, hsz⟩ (of_decide_eq_false h)
    subst this
    simp
  · rw [h2] at h; cases h
  · rw [e]; simp; exact h
  · rw [e]; simp; omega
  · rw [h5] at h; cases h
  · rw [e]; simp; omega
  · omega
def badTo (L : List ByteArray) (k : Nat) : Bool := decide (L = [] ∨ ∃ j, ∃ h : j < L.length, j < k ∧ (L[j]'h).size ≠ 512)
theorem badTo_succ (L : List ByteArray) (k : Nat) (h : k < L.length) : badTo L (k + 1) = (badTo L k || decide ((L[k]'h).size ≠ 512)) := by
  unfold badTo
  rw [← Bool.decide_or, decide_eq_decide]
  constructor
  · rintro (h0 | ⟨j, hj, hjk, hz⟩)
    · exact .inl (.inl h0)
    · by_cases e : j = k
      · subst e; exact .inr hz
      · exact .inl (.inr ⟨j, hj, by omega, hz⟩)
  · rintro ((h0 | ⟨j, hj, hjk, hz⟩) | hz)
    · exact .inl h0
    · exact .inr ⟨j, hj, by omega, hz⟩
    · exact .inr ⟨k, h, by omega, hz⟩
theorem badTo_all (L : List ByteArray) : badTo L L.length = !arePg L := by
  unfold badTo arePg
  rw [← decide_not, decide_eq_decide]
  constructor
  · rintro (h0 | ⟨j, hj, -, hz⟩) hh
    · exact hh.1 h0
    · exact hz (hh.2 _ (List.getElem_mem hj))
  · intro hh
    by_cases h0 : L = []
    · exact .inl h0
    · right
      by_cases hx : ∃ j, ∃ h : j < L.length, j < L.length ∧ (L[j]'h).size ≠ 512
      · exact hx
      · refine absurd ⟨h0, fun s hs => ?_⟩ hh
        obtain ⟨j, hj, rfl⟩ := List.mem_iff_getElem.1 hs
        by_cases hz : (L[j]'hj).size = 512
        · exact hz
        · exact absurd ⟨j, hj, hj, hz⟩ hx
theorem rep_snoc (P : ByteArray) (k : Nat) : List.replicate (k + 1) P = List.replicate k P ++ [P] := List.replicate_succ'

theorem own : ownKnob Try.prog.godebug = none := by kernel_rfl
theorem laidOut : laidOutB Try.prog = true := by kernel_rfl

set_option maxHeartbeats 8000000 in
set_option maxRecDepth 100000 in
theorem walk (a0 : Option Addr) (len0 cap0 : Nat) (z0 : List ByteArray) (a1 : Int) (w : World) (w0 : IsStrs w a0 len0 cap0 z0) (w1 : (Lit.int .u8 a1).wf = true) :
    Calls Try.prog 6 #[.slice a0 len0 cap0, .int .u8 a1] w fun e w' => e = .returned (.bool true) ∧ Below w.heap.size w w' := by
  have r1 := wf_u8 w1
  obtain ⟨m, hm⟩ : ∃ m : Nat, a1 = (m : Int) := ⟨a1.toNat, by omega⟩
  subst hm
  have hm8 : m < 256 := by omega
  obtain ⟨hs0, hl0⟩ := strs_in w0
  obtain ⟨L, hL⟩ : ∃ L, L = z0.take len0 := ⟨_, rfl⟩
  rw [← hL] at hs0 hl0
  have HL0 := Lib.hid hl0
  have HS0 := Lib.hid hs0
  have hc := (hs0.open_)
  obtain ⟨a', c', e', hc1, hc2, hc3⟩ := hc
  have hcap : len0 ≤ cap0 := by rw [hl0] at e' hc1; injection e' with _ _ h; omega
  have hcap2 : cap0 ≤ 9223372036854775807 := by injection e' with _ _ h; unfold maxLen at hc2; omega
  clear w0 w1 r1 hL hl0 hs0 e' hc1 hc2 hc3
  have PP := Lib.hid (show ∀ w : World, Calls Try.prog 26 #[.int .u8 1, .int .u8 2] w fun e w' => e = .returned (.string (Pg 1 2)) ∧ Below w.heap.size w w' from fun w => Page_any 1 2 (by omega) (by omega) w)
  have zP := Pg_size 1 2
  obtain ⟨P, hP⟩ : ∃ P, P = Pg 1 2 := ⟨_, rfl⟩
  rw [← hP] at PP zP
  have ZP := Lib.hid zP
  clear hP zP
  go_enter Try.func6, Try.ntmps6
  go_wp2_with fail
  refine (awaken_any _).mono ?_
  rintro e w1 ⟨rfl, b1⟩
  by_cases c1 : 100 < len0
  · have d1 : decide ((100 : Int) < (len0 : Int)) = true := by simp; omega
    go_wp2_with (go_at_call 7; refine (awaken_any _).mono ?_; rintro e w2 ⟨rfl, b2⟩)
    go_ret
    exact ⟨rfl, then_ b1 b2 b1.size⟩
  have d1 : decide ((100 : Int) < (len0 : Int)) = false := by simp; omega
  go_wp2_with fail
  refine (new_any w1 1000 (by omega) (by omega)).mono ?_
  rintro e w2 ⟨d, sb, mb, rfl, D2, b2, zd, zs, zm⟩
  have z1 := b1.size
  have B2 := then_ b1 b2 b1.size
  have hnew := sep_new' (wv := .slice none 0 0) w.heap.size (by omega) (by omega) (by omega) (fun g hg => by cases hg) (d := d) (sb := sb) (mb := mb)
  change DiskAt w2 d sb mb (1000 * 64) (.slice none 0 0) 1000 (fresh 1000) at D2
  have HO := open_any D2 rfl 0 1000 0 (by omega) (by omega) (by omega)
  rw [fresh_none] at HO
  replace HO := Lib.hid HO
  go_wp2_with fail
  refine HO.out.mono ?_
  rintro e w3 ⟨lg, v, rfl, hlg, hL3, hT, hb3⟩
  have S3 := Ses.open_ (w0 := w) (seq := 0) (ts := []) D2 rfl hnew B2 (by omega) hlg hL3 (Nat.zero_le _) hb3
  change Ses w w3 lg d sb mb (1000 * 64) (.slice none 0 0) 1000 (fresh 1000) ⟨0, 1000, 0, 0, false⟩ at S3
  obtain ⟨ta, tc, rfl, ht1, ht2, -⟩ := hT.open_
  have H0 := HS0.out.keep (Chg.of (S := fun _ => False) (S3.below)) fun _ _ _ => id
  have H3 : StrsIn w3 (fun b => ¬ fp d sb mb (.slice none 0 0) b) (.slice a0 len0 cap0) L := H0.mono fun b _ hb h => by have := S3.new b h; omega
  replace S3 := Lib.hid S3
  replace H3 := Lib.hid H3
  have OP := Lib.hid H3.out.open_
  clear HO hL3 hT hb3 D2 b1 b2 B2 hnew zd zs zm ht1 ht2 hlg H0 z1 HS0
  obtain ⟨b0, hb0⟩ : ∃ b0 : Bool, ((len0 : Int) == 0) = b0 := ⟨_, rfl⟩
  have hbad0 : badTo L 0 = b0 := by
    rw [← hb0]
    unfold badTo
    by_cases h : L = []
    · rw [decide_eq_true (.inl h)]
      have := HL0.out; rw [h] at this; simp at this
      simp; omega
    · rw [decide_eq_false]
      · have : L.length ≠ 0 := fun e => h (List.length_eq_zero_iff.1 e)
        rw [HL0.out] at this
        symm; rw [beq_eq_false_iff_ne]; omega
      · rintro (h0 | ⟨j, _, hj, _⟩)
        · exact h h0
        · omega
  have HB0 := Lib.hid hbad0
  go_upto_region 7 with fail
  clear hb0 hbad0
  go_loop [10, 11] (fun v i => ∃ k : Nat, k ≤ len0 ∧ i = .int .i64 k ∧ v = .bool (badTo L k)) (fun _ i => len0 - (intOf i).toNat)
  case atStart => exact ⟨0, by omega, rfl, by rw [HB0.out]⟩
  case round =>
    obtain ⟨k, hk, rfl, rfl⟩ := hrel
    by_cases hlt : k < len0
    · have hkl : k < L.length := by rw [HL0.out]; exact hlt
      obtain ⟨a', c', e', -, -, hc⟩ := OP.out
      rw [HL0.out] at e'
      injection e' with e1 e2 e3
      obtain ⟨hz, b, o, hpa, -, -, hcell⟩ := hc k hkl
      subst e1
      subst hpa
      have BS := Lib.hid (badTo_succ L k hkl)
      obtain ⟨s, hs⟩ : ∃ s, s = L[k]'hkl := ⟨_, rfl⟩
      rw [← hs] at hcell hz BS
      unfold maxLen at hz
      have k1 : (k : Int) < len0 := by omega
      clear hs hc
      obtain ⟨bd, hbd⟩ : ∃ bd, bd = badTo L k := ⟨_, rfl⟩
      rw [← hbd] at BS ⊢
      clear hbd
      obtain ⟨ne, hne⟩ : ∃ ne : Bool, ((s.size : Int) != 512) = ne := ⟨_, rfl⟩
      have hne2 : decide (s.size ≠ 512) = ne := by
        rw [← hne]
        by_cases c : s.size = 512
        · simp [c]
        · rw [decide_eq_true c]; symm; rw [bne_iff_ne]; omega
      rw [hne2] at BS
      clear hne2
      cases bd with
      | true =>
        go_wp2
        go_round
        case rel => exact ⟨k + 1, by omega, by go_num, by rw [BS.out]; rfl⟩
        case measure => simp [intOf]; omega
      | false =>
        go_wp2
        go_round
        case rel => exact ⟨k + 1, by omega, by go_num, by rw [BS.out]; rfl⟩
        case measure => simp [intOf]; omega
    · obtain rfl : k = len0 := by omega
      have hball : badTo L k = !arePg L := by
        have h := badTo_all L
        rw [HL0.out] at h
        exact h
      rw [hball]
      obtain ⟨s1, l1, e1, hf1, hd1, hfu1⟩ := first_ (fresh 1000) ⟨0, 1000, 0, 0, false⟩ L S3.out.ok S3.out.fit rfl (by show 1 + 9 * 64 ≤ 1000 - 0; omega) rfl (by show (-1 : Int) < 0; omega)
      have HA := S3.out.append _ _ H3.out
      rw [e1, HL0.out] at HA
      replace HA := Lib.hid HA
      have HFS := Lib.hid (And.intro hf1 (And.intro hd1 hfu1))
      clear hball e1 hf1 hd1 hfu1 OP
      obtain ⟨bd, hbd⟩ : ∃ bd, bd = arePg L := ⟨_, rfl⟩
      rw [← hbd] at HA ⊢
      clear hbd
      obtain ⟨code, hcode⟩ : ∃ code : Int, code = (if bd = false then 1 else if 64 < k then 10 else 0) := ⟨_, rfl⟩
      have e2 : (if (!bd) = true then (1 : Int) else if 64 < k then 10 else 0) = code := by rw [hcode]; cases bd <;> rfl
      rw [← hcode] at HA
      have HC := Lib.hid hcode
      clear hcode e2
      have three : (bd = false ∧ code = 1 ∧ decide ((64 : Int) < (k : Int)) = decide ((64 : Int) < (k : Int)) ∧ True) ∨ (bd = true ∧ code = 10 ∧ decide ((64 : Int) < (k : Int)) = true ∧ decide ((k : Int) ≤ 64) = false) ∨ (bd = true ∧ code = 0 ∧ decide ((64 : Int) < (k : Int)) = false ∧ decide ((k : Int) ≤ 64) = true) := by
        cases bd
        · exact .inl ⟨rfl, HC.out, rfl, trivial⟩
        · by_cases h : 64 < k
          · refine .inr (.inl ⟨rfl, ?_, ?_, ?_⟩)
            · rw [HC.out, if_neg (by simp), if_pos h]
            · simp; omega
            · simp; omega
          · refine .inr (.inr ⟨rfl, ?_, ?_, ?_⟩)
            · rw [HC.out, if_neg (by simp), if_neg h]
            · simp; omega
            · simp; omega
      clear HC
      rcases three with ⟨rfl, rfl, -, -⟩ | ⟨rfl, rfl, d64, d65⟩ | ⟨rfl, rfl, d64, d65⟩
      all_goals
        go_wp2_with fail
        refine HA.out.mono ?_
        rintro e w4 ⟨rfl, wv4, S4, -, -⟩
        replace S4 := Lib.hid S4
        have z4 := S4.out.below.size
        clear HA
        go_upto_region 15 with fail
        go_loopw [13, 14] (fun v i wr => ∃ j : Nat, j ≤ m ∧ i = .int .i64 j ∧ StrOwn wr (fun q => w4.heap.size ≤ q) v (List.replicate j P) ∧ Below w4.heap.size w4 wr) (fun _ i wr => m - (intOf i).toNat)
        case atStart => exact ⟨0, by omega, rfl, StrOwn.nil _ _, Below.refl _ _⟩
        case round =>
          obtain ⟨j, hj, rfl, hS, hL⟩ := hrel
          have hz := hL.size
          by_cases hlj : j < m
          · have hrl : (List.replicate j P).length = j := List.length_replicate
            have hsn := rep_snoc P j
            obtain ⟨xa, xc, rfl, hx1, hx2⟩ := hS.shape
            rw [hrl] at hS hx1 ⊢
            have HSN := Lib.hid hsn
            replace hS := Lib.hid hS
            replace hL := Lib.hid hL
            obtain ⟨i0, hi0, hz0, hz1, hz2⟩ := info_parts info_st
            have jm : (j : Int) < (m : Int) := by omega
            clear hsn
            go_wp2_with fail
            refine (PP.out _).mono ?_
            rintro e w6 ⟨rfl, b6⟩
            have hS2 := hS.out.below b6
            have hL2 := then_ hL.out b6 hz
            have hrow := hS2.row
            rw [hrl] at hrow
            have hz2' := hL2.size
            replace hL2 := Lib.hid hL2
            have HS2 := Lib.hid hS2
            clear b6 hS2
            go_wp2_with (at_builtin; refine wpList_append_own_at _ rfl _ _ 35 rfl 0 9 i0 (.string ⟨#[]⟩) 1 16 Try.underlying35 hi0 hz0 hz1 hz2 rfl (by decide) (.slice xa j xc) j ((List.replicate j P).map .string) rfl (hrow.alloc _) ⟨w6.heap.size, 0, none⟩ 1 1 [.string P] rfl rfl ?c1 ?c2 (by unfold maxLen; omega) (by omega) (Nat.zero_le _) ?_)
            case c1 => intro j u hu; exact one_cell _ _ _ _ hu
            case c2 => intro u hu; simp at hu; subst hu; rfl
            intro v' w7 hown hgrow hnil hloc
            clear hnil
            have HP := StrOwn.push HS2.out (t := P) (by rw [ZP.out]; unfold maxLen; omega) ((Below.refl _ _).alloc (Nat.le_refl _) _) (by rw [hrl, List.map_replicate]; exact hown) hgrow (hloc.imp_right fun h => h.trans (by simp)) (fun q hq => by omega)
            obtain ⟨hS5, hc5⟩ := HP
            have hL5 : Below w4.heap.size w4 w7 := hL2.out.trans (hc5.below hz2' fun q h => HS2.out.at_ _ h)
            rw [← HSN.out] at hS5
            have hl5 : (List.replicate (j + 1) P).length = j + 1 := List.length_replicate
            obtain ⟨ya, yc, rfl, hy1, hy2⟩ := hS5.shape
            rw [hl5] at hS5 ⊢
            replace hS5 := Lib.hid hS5
            replace hL5 := Lib.hid hL5
            clear hown hgrow hloc hc5 hy1 hy2 hl5 hrow
            go_wp2
            go_roundw
            case rel => exact ⟨j + 1, by omega, by go_num, hS5.out, hL5.out⟩
            case measure => simp [intOf]; omega
          · obtain rfl : j = m := by omega
            have hsi := hS.in_
            have S5 := S4.out.next hL
            obtain ⟨xa, xc, rfl, hx1, hx2⟩ := hS.shape
            rw [List.length_replicate] at hsi ⊢
            have HA2 := S5.append _ _ (hsi.mono fun b _ hb h => by have := S4.out.disk.in_ h; omega)
            have h10 := second_ s1 l1 (List.replicate j P) S5.ok S5.fit HFS.out.1 HFS.out.2.1 HFS.out.2.2 (fun p hp => by rw [List.eq_of_mem_replicate hp]; exact ZP.out)
            rw [List.length_replicate] at h10
            obtain ⟨A, hA⟩ : ∃ A, A = ares 1000 s1 l1 (List.replicate j P) := ⟨_, rfl⟩
            rw [← hA] at HA2 h10
            obtain ⟨f, s9, l9⟩ := A
            simp only at h10
            have d10 : (f == 10) = decide ((64 : Int) < (j : Int)) := by
              rw [Bool.eq_iff_iff, beq_iff_eq, decide_eq_true_iff, h10]; omega
            obtain ⟨g, hg⟩ : ∃ g : Bool, (f == 10) = g := ⟨_, rfl⟩
            rw [hg] at d10
            replace d10 := d10.symm
            replace HA2 := Lib.hid HA2
            clear hA h10 hS hsi S5 hx1 hx2 hL
            go_wp2_with fail
            refine HA2.out.mono ?_
            rintro e w5 ⟨rfl, wv5, S6, -, -⟩
            have B6 := Lib.hid S6.below
            clear S6 HA2
            cases g
            all_goals
              go_wp2_with (first
                | (go_at_call 17; refine (nil_append _ _).mono ?_; rintro e w' ⟨rfl, rfl⟩)
                | (go_at_call 22; refine (nil_left _).mono ?_; rintro e w' ⟨rfl, rfl⟩)
                | (go_at_call 21; refine (nil_next _).mono ?_; rintro e w' ⟨rfl, rfl⟩)
                | (go_at_call 18; refine (nil_restart _).mono ?_; rintro e w' ⟨rfl, rfl⟩))
              go_ret
              exact ⟨rfl, B6.out⟩

set_option maxRecDepth 100000 in
theorem lifted (os : Os) (started : os.Started) (H : Type) (enc : TypeId × Value → H) :
    ReturnsInHanded {} Try.checked os 6 .any (Rows.redoRefusesSpec.pre6 enc Try.prog Try.f6 Rows.redoRefusesRow.domain false) (Rows.redoRefusesSpec.post enc Try.prog Try.f6 false true false false) := by
  refine returnsInHanded_of_change (C := Try.checked) own started (by kernel_rfl) Try.func6
    (ChangeSpec.witness6 (enc := enc) (C := Try.checked) false ⟨#[], #[.slice none 0 0, .int .u8 0], []⟩ 8 (by kernel_rfl) (by kernel_rfl) (by kernel_rfl) (by kernel_rfl)) ?_
  intro W base args ds gs before hval0 hW hcnd _
  have hval : ∀ (j : Nat) t v, Try.f6.params[j]? = some t → args[j]? = some v → Value.okWide Try.prog W .any base t v := hval0
  have hW' := hW
  obtain ⟨p, q, hA0, hV, rfl, hfz, hnd⟩ := hW
  have hA : DataW.TrodAll enc Try.prog W 0 (fun _ => true) true Try.f6.params.toList args.toList ds p := hA0
  rw [Try.params6] at hA hval
  obtain ⟨v0, vs0, d0, ds0, p0, q0, hargs, rfl, rfl, h0, r0⟩ := trodAll_cons hA
  obtain ⟨v1, vs1, d1, ds1, p1, q1, rfl, rfl, rfl, h1, r1⟩ := trodAll_cons r0
  obtain ⟨rfl, rfl, rfl⟩ := trodAll_nil r1
  obtain rfl : args = #[v0, v1] := by cases args; simp_all
  obtain ⟨rfl, rfl⟩ := trodVars_none hV
  obtain ⟨a0, len0, cap0, rfl⟩ := okWide_slice Try.underlying35 (hval 0 35 v0 rfl rfl)
  have k0 := h0
  have lt0 : ∀ x ∈ p0, x.block < W.heap.size := by obtain ⟨m, hm⟩ := k0; exact DataW.trod_lt m _ _ _ hm
  obtain ⟨z0, w0⟩ : ∃ zs, IsStrs W a0 len0 cap0 zs := by
    obtain ⟨fuel, hf⟩ := h0
    rcases open_strings Try.underlying35 Try.underlying9 (by kernel_rfl) hf with ⟨hcs, _⟩ | ⟨x, l, c, zs, hcs, _, hl, hm, hz, _, hcell, hwz⟩
    · simp [Value.cells] at hcs
      obtain ⟨rfl, rfl, rfl⟩ := hcs
      exact ⟨[], .inl ⟨rfl, rfl, rfl, rfl⟩⟩
    · simp [Value.cells] at hcs
      obtain ⟨rfl, rfl, rfl⟩ := hcs
      exact ⟨zs, .inr ⟨_, rfl, hl, hm, by simpa using hz, hcell, hwz⟩⟩
  obtain ⟨a1, rfl, rfl, rfl, w1⟩ := open_int Try.underlying5 (hval 1 5 v1 rfl rfl) h1
  clear hA0 hval0
  refine (walk a0 len0 cap0 z0 a1 W w0 w1).mono fun e W' ⟨he, bel⟩ => ?_
  subst he
  exact ⟨_, rfl, _, _, _, [], _, [], hW', trodAll_mk1 (shut_bool Try.underlying4 _), (trodAll_cons_mk (Below.trod laidOut (by kernel_rfl) (of_decide_eq_true (by kernel_rfl)) k0 bel lt0) (trodAll_cons_mk (shut_int Try.underlying5 w1) trodAll_mk0)), rfl, bel.frame _, fun h => by cases h⟩

theorem over : Rows.redoRefusesRow.holds Try.pinned (OpenSpec.ofChange Rows.redoRefusesSpec) :=
  OpenClaim.holds_of_wide 6 Try.f6 rfl rfl rfl rfl rfl rfl rfl ⟨rfl, rfl, rfl, rfl, rfl⟩ rfl rfl rfl rfl rfl (by kernel_rfl) Try.func6 (by kernel_rfl)
    (of_decide_eq_true (by kernel_rfl)) (by unfold Func.isWrapper; first | (rw [if_pos (by decide +kernel)]; kernel_rfl) | (rw [if_neg (by decide +kernel)]; exact ⟨rfl, rfl⟩))
    (fun os started H enc _ => lifted os started H enc)

/-- THE STATEMENT -/
theorem proved : Rows.RedoRefusesSaid := over
#print axioms proved
end Go.Proofs.Ytmincpmkiheofaa.redoRefuses
