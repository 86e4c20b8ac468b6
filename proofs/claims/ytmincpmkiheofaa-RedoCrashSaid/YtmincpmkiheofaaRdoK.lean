
/- The contract of a log's Append. Conditions: the disk's and the log's blocks as they lie. -/
import Derived.Test.YtmincpmkiheofaaRdoJ
namespace Go.Proofs.Ytmincpmkiheofaa
open Go.ChangeShapes Go.WideShapes Go.ChangeAt Go.RowKit
set_option linter.unusedVariables false
set_option linter.unusedSimpArgs false

/-- what Append answers, and what it leaves of the disk and of the log -/
def ares (N : Nat) (s : St) (l : LogS) (ps : List ByteArray) : Int × St × LogS :=
  if arePg ps = false then (1, s, l) else if l.failed = true then (17, s, l) else if 64 < ps.length then (10, s, l) else if l.left < 1 + 9 * ps.length then (9, s, l) else
    if (runW N (txnOps (l.from_ + l.used) ps l.next) (0, s)).1 = 0 then (0, (runW N (txnOps (l.from_ + l.used) ps l.next) (0, s)).2, l.plus ps.length)
    else ((runW N (txnOps (l.from_ + l.used) ps l.next) (0, s)).1, (runW N (txnOps (l.from_ + l.used) ps l.next) (0, s)).2, { l with failed := true })
/-- what Append leaves -/
def Appended (w w' : World) (lg d sb mb sc : Nat) (wv : Value) (N : Nat) (r : St × LogS) : Prop :=
  ∃ wv', DiskAt w' d sb mb sc wv' N r.1 ∧ LogAt w' lg d r.2 ∧ Chg (fun q => fp d sb mb wv q ∨ q = lg) w w' ∧ (wv'.ownBlock = wv.ownBlock ∨ wv'.ownBlock = none ∨ ∃ g, wv'.ownBlock = some g ∧ w.heap.size ≤ g)
section
variable {w : World} {lg d sb mb sc : Nat} {wv : Value} {N : Nat} {s : St} {l : LogS}
theorem Appended.same (hD : DiskAt w d sb mb sc wv N s) (hL : LogAt w lg d l) : Appended w w lg d sb mb sc wv N (s, l) := ⟨wv, hD, hL, Chg.refl _ _, .inl rfl⟩
theorem Appended.drawn (hD : DiskAt w d sb mb sc wv N s) (hL : LogAt w lg d l) (q : Nat) : Appended w (w.drewN q) lg d sb mb sc wv N (s, l) := ⟨wv, hD.below (below_drewN (Below.refl _ _) q), hL, (Chg.refl _ _).drewN q, .inl rfl⟩
theorem nil_append (v : Value) (w : World) : Calls Try.prog 17 #[.pointer none, v] w fun e w' => e = .returned (.int .i64 1) ∧ w = w' := by
  go_enter Try.func17, Try.ntmps17
  go_wp2
  go_ret
  exact ⟨rfl, rfl⟩
set_option maxRecDepth 10000 in
set_option maxHeartbeats 2000000 in
theorem append_any (hL : LogAt w lg d l) (hk : l.Ok) (hD : DiskAt w d sb mb sc wv N s) (v : Value) (ps : List ByteArray) (hps : StrsIn w (fun b => ¬ fp d sb mb wv b) v ps) (hfew : s.wr.length ≤ 100000) (hlg : ¬ fp d sb mb wv lg) :
    Calls Try.prog 17 #[.pointer (some ⟨lg, 0, none⟩), v] w fun e w' => e = .returned (.int .i64 (ares N s l ps).1) ∧ Appended w w' lg d sb mb sc wv N (ares N s l ps).2 := by
  have HA := Lib.hid (are_any w _ v ps hps)
  have HLeft := Lib.hid (left_any hL hk)
  have HW := Lib.hid (fun (h1 : ∀ p ∈ ps, p.size = 512) (h2 : ps.length ≤ 1000) (q : Nat) => lwrite_any (show LogAt (w.drewN q) lg d l from hL) hk (hD.below (below_drewN (Below.refl _ _) q)) v ps (hps.below (below_drewN (Below.refl _ _) q)) h1 h2 hfew hlg)
  obtain ⟨pa, pc, rfl, hp1, hp2, hp3⟩ := hps.open_
  obtain ⟨o1, o2, o3⟩ := Own.at_ (show Own w lg 64 #[.pointer (some ⟨d, 0, none⟩), .int .i64 (l.from_ : Int), .int .i64 (l.size : Int), .int .i64 (l.used : Int), .int .u64 (l.next : Int), .bool l.failed] from hL)
  have HSAME := Lib.hid (Appended.same hD hL)
  have HDRAW := Lib.hid (Appended.drawn hD hL)
  have HL := Lib.hid hL
  have HK := Lib.hid hk
  have HD := Lib.hid hD
  obtain ⟨R, hR⟩ : ∃ R, R = ares N s l ps := ⟨_, rfl⟩
  have HR := Lib.hid hR
  rw [← hR]
  obtain ⟨n, hn⟩ : ∃ n, n = ps.length := ⟨_, rfl⟩
  have HN := Lib.hid hn
  rw [← hn] at HA HW hp1 ⊢
  clear hL hk hD hps hp3 hR hn hfew
  cases ca : arePg ps with
  | false =>
    rw [ca] at HA
    have e : R = (1, s, l) := by rw [HR.out]; unfold ares; rw [if_pos ca]
    have E := Lib.hid e
    clear e HR
    go_enter Try.func17, Try.ntmps17
    go_wp2_with (go_at_call 34; refine HA.out.mono ?_; rintro e w' ⟨rfl, rfl⟩)
    go_ret
    rw [E.out]
    exact ⟨rfl, HSAME.out⟩
  | true =>
    rw [ca] at HA
    have hall : ∀ p ∈ ps, p.size = 512 := (of_decide_eq_true ca).2
    have e1 : R = if l.failed = true then (17, s, l) else if 64 < ps.length then (10, s, l) else if l.left < 1 + 9 * ps.length then (9, s, l) else
        if (runW N (txnOps (l.from_ + l.used) ps l.next) (0, s)).1 = 0 then (0, (runW N (txnOps (l.from_ + l.used) ps l.next) (0, s)).2, l.plus ps.length)
        else ((runW N (txnOps (l.from_ + l.used) ps l.next) (0, s)).1, (runW N (txnOps (l.from_ + l.used) ps l.next) (0, s)).2, { l with failed := true }) := by
      rw [HR.out]; unfold ares; rw [if_neg (by rw [ca]; simp)]
    have E1 := Lib.hid e1
    have HALL := Lib.hid hall
    clear HR ca e1 hall
    by_cases cf : l.failed = true
    · have e := E1.out
      rw [if_pos cf] at e
      have E := Lib.hid e
      rw [cf] at o1
      clear e E1 cf
      go_enter Try.func17, Try.ntmps17
      go_wp2_with (go_at_call 34; refine HA.out.mono ?_; rintro e w' ⟨rfl, rfl⟩)
      go_ret
      rw [E.out]
      exact ⟨rfl, HSAME.out⟩
    have cf : l.failed = false := by simpa using cf
    have E2 := E1.out
    rw [if_neg (by rw [cf]; simp)] at E2
    rw [cf] at o1
    have CF := Lib.hid cf
    replace E2 := Lib.hid E2
    clear E1 cf
    rw [← HN.out] at E2
    by_cases c6 : 64 < n
    · have d6 : decide ((64 : Int) < (n : Int)) = true := by simp; omega
      have e := E2.out
      rw [if_pos c6] at e
      have E := Lib.hid e
      clear e E2 c6
      go_enter Try.func17, Try.ntmps17
      go_wp2_with (go_at_call 34; refine HA.out.mono ?_; rintro e w' ⟨rfl, rfl⟩)
      go_ret
      rw [E.out]
      exact ⟨rfl, HSAME.out⟩
    have d6 : decide ((64 : Int) < (n : Int)) = false := by simp; omega
    have E3 := E2.out
    rw [if_neg c6] at E3
    replace E3 := Lib.hid E3
    have HS := Lib.hid (fun w => sof_any n w (by omega))
    obtain ⟨LE, hLE⟩ : ∃ LE, LE = l.left := ⟨_, rfl⟩
    rw [← hLE] at HLeft E3
    have HLE := Lib.hid hLE
    clear E2 hLE
    by_cases c7 : LE < 1 + 9 * n
    · have d7 : decide ((LE : Int) < 1 + 9 * (n : Int)) = true := by simp; omega
      have e := E3.out
      rw [if_pos c7] at e
      have E := Lib.hid e
      clear e E3 c7
      go_enter Try.func17, Try.ntmps17
      go_wp2_with (first
        | (go_at_call 34; refine HA.out.mono ?_; rintro e w' ⟨rfl, rfl⟩)
        | (go_at_call 35; refine (HS.out _).mono ?_; rintro e w' ⟨rfl, rfl⟩)
        | (go_at_call 22; refine HLeft.out.mono ?_; rintro e w' ⟨rfl, q, rfl⟩))
      go_ret
      rw [E.out]
      exact ⟨rfl, HDRAW.out q⟩
    have d7 : decide ((LE : Int) < 1 + 9 * (n : Int)) = false := by simp; omega
    have E4 := E3.out
    rw [if_neg c7] at E4
    obtain ⟨r, hr⟩ : ∃ r, r = runW N (txnOps (l.from_ + l.used) ps l.next) (0, s) := ⟨_, rfl⟩
    have HW2 := HW.out HALL.out (by omega)
    rw [← hr] at HW2 E4
    replace HW2 := Lib.hid HW2
    replace E4 := Lib.hid E4
    clear E3 HW hr
    obtain ⟨r1, r2⟩ := r
    by_cases c8 : r1 = 0
    · have e := E4.out
      rw [if_pos c8] at e
      have E := Lib.hid e
      subst c8
      clear e E4
      go_enter Try.func17, Try.ntmps17
      go_upto_region 14 with (first
        | (go_at_call 34; refine HA.out.mono ?_; rintro e w' ⟨rfl, rfl⟩)
        | (go_at_call 35; refine (HS.out _).mono ?_; rintro e w' ⟨rfl, rfl⟩)
        | (go_at_call 22; refine HLeft.out.mono ?_; rintro e w' ⟨rfl, q, rfl⟩)
        | (go_at_call 36; refine (HW2.out q).mono ?_; rintro e w2 ⟨rfl, wv2, hD2, hc2, hv2⟩))
      have hL2 : LogAt w2 lg d l := hc2.own HL.out hlg
      have HADD := Lib.hid (add_any hL2 HK.out n (by omega))
      have hlg2 : ∀ q, fp d sb mb wv2 q → q ≠ lg := fun q hq e => by
        rcases fp_next hv2 hq with h | h
        · exact hlg (e ▸ h)
        · have : w.heap.size ≤ q := h
          omega
      have C2 := Lib.hid (And.intro hD2 (And.intro hc2 hv2))
      clear hD2 hc2 hv2 hL2
      go_wp2_with (go_at_call 30; refine HADD.out.mono ?_; rintro e w3 ⟨rfl, hL3, hc3, hz3⟩; replace hz3 := Lib.hid hz3)
      go_ret
      rw [E.out]
      refine ⟨rfl, wv2, C2.out.1.keep hc3 fun q hq e => hlg2 q hq e, hL3, ?_, C2.out.2.2⟩
      exact ((Chg.refl _ w).drewN q).same ((C2.out.2.1.mono fun q _ h => .inl h).same (hc3.mono fun q _ h => .inr h))
    · have e := E4.out
      rw [if_neg c8] at e
      have E := Lib.hid e
      have t8 : (r1 == 0) = false := by simpa using c8
      have t9 : (r1 != 0) = true := by simpa using c8
      clear e E4 c8
      go_enter Try.func17, Try.ntmps17
      go_upto_region 12 with (first
        | (go_at_call 34; refine HA.out.mono ?_; rintro e w' ⟨rfl, rfl⟩)
        | (go_at_call 35; refine (HS.out _).mono ?_; rintro e w' ⟨rfl, rfl⟩)
        | (go_at_call 22; refine HLeft.out.mono ?_; rintro e w' ⟨rfl, q, rfl⟩)
        | (go_at_call 36; refine (HW2.out q).mono ?_; rintro e w2 ⟨rfl, wv2, hD2, hc2, hv2⟩))
      have hL2 : LogAt w2 lg d l := hc2.own HL.out hlg
      have hlg2 : ∀ q, fp d sb mb wv2 q → q ≠ lg := fun q hq e => by
        rcases fp_next hv2 hq with h | h
        · exact hlg (e ▸ h)
        · have : w.heap.size ≤ q := h
          omega
      obtain ⟨p1, p2, p3⟩ := Own.at_ (show Own w2 lg 64 #[.pointer (some ⟨d, 0, none⟩), .int .i64 (l.from_ : Int), .int .i64 (l.size : Int), .int .i64 (l.used : Int), .int .u64 (l.next : Int), .bool l.failed] from hL2)
      have C2 := Lib.hid (And.intro hD2 (And.intro hc2 hv2))
      replace hL2 := Lib.hid hL2
      clear hD2 hc2 hv2
      go_wp2
      go_ret
      rw [E.out]
      have hc3 := chg_one w2 lg 5 (.bool true)
      refine ⟨rfl, wv2, C2.out.1.keep hc3 fun q hq e => hlg2 q hq e, Own.put hL2.out 5 (.bool true), ?_, C2.out.2.2⟩
      exact ((Chg.refl _ w).drewN q).same ((C2.out.2.1.mono fun q _ h => .inl h).same (hc3.mono fun q _ h => .inr h))
end
end Go.Proofs.Ytmincpmkiheofaa
