/- merged: The document's example of a pager: the contract of the law's awake, and of what comes ahead of it in the laws: a new disk, Format, Open. Conditions: those that each theorem names. The contracts of calls of a disk beneath a pager, and of a pager whose disk is down. Conditions: those that each theorem names. The contracts of a pager's asking calls, in the laws' words. Conditions: a disk that isn't down. For every three integers and every string: where the string has at most 1000 bytes, a nil pager answers each of its calls with ErrArg, or 0; a pager whose disk's power fails at Checkpoint answers ErrDown, and ErrState behind it, and a disk that is down can be neither opened nor formatted; the document's example of layer 11 holds: PagerNil answers true.
Conditions: none; every input that can be read is spoken of. -/
import Derived.Test.YtgfccjijbhoefaaGreatDoorPgvB
import Derived.Test.YtgfccjijbhoefaaGreatDoorRdoC
import Derived.Test.YtgfccjijbhoefaaGreatDoorRows
import Derived.Test.YtgfccjijbhoefaaGreatDoorCrcA
import Derived.WalkKit
import Derived.ProofKit
import Derived.OpenShut
import Derived.ShutString
import Derived.ChangeOld
import Derived.Below
import Derived.SliceStrings
import Derived.Deep.DeepHandedRow
import Derived.Lib.LaidTab
import Derived.Test.YtgfccjijbhoefaaGreatDoorCards
import Derived.Test.YtgfccjijbhoefaaGreatDoorTie
import Derived.LaidMore
import Derived.Stop.Joined
import Derived.SevenTiedAt
section
namespace Go.Proofs.YtgfccjijbhoefaaGreatDoor
open Go.ChangeShapes Go.WideShapes Go.ChangeAt Go.RowKit
set_option linter.unusedVariables false
set_option linter.unusedSimpArgs false

section
variable {w w' : World} {B Bp d p c N ll room : Nat} {s : St} {P : PS}
theorem DiskO.base (h : DiskO w B d N s) : B ≤ w.heap.size := by
  obtain ⟨sb, mb, sc, wv, hD, b1, -⟩ := h
  have := hD.own.in_
  omega
theorem DiskO.ok (h : DiskO w B d N s) : s.Ok N := by
  obtain ⟨sb, mb, sc, wv, hD, b1, -⟩ := h
  exact hD.ok
theorem ft_below (hB : B ≤ w.heap.size) (h : Chg (FT w B) w w') : Below B w w' := h.below hB fun q hq => hq.1
theorem pt_below (h : PagerAt w B Bp d p c P) (hc : Chg (Po.PT w Bp) w w') : Below B w w' := by
  obtain ⟨h1, h2, h3⟩ := h.base
  exact hc.below (by omega) fun q hq => by have := hq.1; omega
/-- a disk behind Format -/
def Formed (s' : St) (ll : Nat) : Prop := s'.down = false ∧ s'.fuse < 0 ∧ s'.wr = [] ∧ ∃ s : St, ∀ k, vw s' k = if k = 1 then mkB 1 (mkT 1 ll) else if k < 2 + ll then zB 64 else if k < 2 + ll + 8 then Pg.secB (pgB 1 0 (hroom 1 0 fun _ => 0)) (k - (2 + ll)) else vw s k
theorem fmt_o (h : DiskO w B d N s) (hd : s.down = false) (hf : s.fuse < 0) (hw : s.wr.length ≤ 300000) (h10 : 10 ≤ ll) (hN : ll + 10 ≤ N) : Calls Tryz.prog 11 #[.pointer (some ⟨d, 0, none⟩), .int .i64 (ll : Int)] w fun e w' => e = .returned (.int .i64 0) ∧ Below B w w' ∧ ∃ s', Formed s' ll ∧ DiskO w' B d N s' := by
  have hB := h.base
  obtain ⟨sb, mb, sc, wv, hD, b1, b2, b3, b4⟩ := h
  obtain ⟨e0, k1, k2, k3, k4, k5⟩ := fmt_state (Sd.of hD.ok) hd hf h10 hN
  refine (fmt_any hD ll h10 hN hw).mono ?_
  rintro e w' ⟨rfl, wv', hD', hc, hv⟩
  refine ⟨by rw [e0], ?_, _, ⟨k1, by rw [k2]; exact hf, k3, s, k5⟩, sb, mb, sc, wv', hD', b1, b2, b3, fun g hg => ?_⟩
  · exact hc.below hB fun q hq => by
      rcases hq with e | e | e | e
      · have e : q = d := e
        omega
      · have e : q = sb := e
        omega
      · have e : q = mb := e
        omega
      · exact b4 q e
  · rcases hv with e | e | ⟨g', e, hg'⟩
    · exact b4 g (e ▸ hg)
    · rw [e] at hg; cases hg
    · rw [e] at hg
      injection hg with hg
      omega
theorem open_o (h : DiskO w B d N s) (hF : Formed s ll) (h10 : 10 ≤ ll) (hN : ll + 10 ≤ N) (r : Nat) (h2 : 2 ≤ r) (h6 : r ≤ 65536) : Calls Tryz.prog 12 #[.pointer (some ⟨d, 0, none⟩), .int .i64 (r : Int)] w fun e w' => ∃ P p Bp, e = .returned (.tuple #[.pointer (some ⟨p, 0, none⟩), .int .i64 0]) ∧ Newp P N ll r ∧ PagerAt w' B Bp d p 2 P ∧ Below w.heap.size w w' := by
  have hok := h.ok
  obtain ⟨sb, mb, sc, wv, hD, b1, b2, b3, b4⟩ := h
  obtain ⟨f1, f2, f3, s0, hv⟩ := hF
  obtain ⟨o1, o2, o3⟩ := fmt_opn (s := s0) f1 h10 hN hok.max r hv
  refine (popen_any hD f1 b1 b2 b3 b4 r h2 h6).mono ?_
  rintro e w' ⟨⟨P, p, Bp, hP, rfl, hBp, hA⟩ | ⟨hn, -⟩, hb⟩
  · rw [o1] at hP
    injection hP with hP
    subst hP
    exact ⟨_, p, Bp, rfl, ⟨rfl, rfl, rfl, rfl, o3, rfl, rfl, rfl, f1, f3, o2, f2⟩, hA, hb⟩
  · rw [o1] at hn; cases hn
theorem PagerAt.sd (h : PagerAt w B Bp d p c P) : Sd P.N P.s := Sd.of h.disk.ok
theorem awk_alloc (h : PagerAt w B Bp d p c P) (hn : Newp P N ll room) (h2 : 2 ≤ (N - 2 - ll) / 8) (hc : c + 6 < 1000000) : Calls Tryz.prog 14 #[.pointer (some ⟨p, 0, none⟩), .int .i64 2] w fun e w' => e = .returned (.tuple #[.int .i64 1, .int .i64 0]) ∧ PagerAt w' B Bp d p (c + 6) (P.al 2) ∧ Below B w w' := by
  obtain ⟨e1, e2, -⟩ := hn.al h.ok h2
  have := alloc_any' h 2 hc
  rw [e1, e2] at this
  exact this.mono fun e w' ⟨a1, a2, a3⟩ => ⟨a1, a2, pt_below h a3⟩
theorem awk_commit (h : PagerAt w B Bp d p c (P.al 2)) (hk : P.Ok) (hn : Newp P N ll room) (h2 : 2 ≤ (N - 2 - ll) / 8) (hl : 19 ≤ ll) (hc : c + 2 < 1000000) : Calls Tryz.prog 19 #[.pointer (some ⟨p, 0, none⟩)] w fun e w' => e = .returned (.int .i64 0) ∧ (∃ Q, PagerAt w' B Bp d p (c + 2) Q ∧ Q.T = [] ∧ Q.s.fuse < 0 ∧ Q.s.down = false ∧ Q.s.wr = [] ∧ Q.l.failed = false ∧ Q.failed = false ∧ Q.seq = 1 ∧ Q.used = 2) ∧ Below B w w' := by
  obtain ⟨-, -, a1, a2, a3, a4, a5, a6, a7, a8, a9⟩ := hn.al hk h2
  obtain ⟨h1, h3, h4⟩ := h.base
  have hm := h.ok.most
  have hlf : (P.al 2).l.failed = false := by rw [a3, hn.l]
  have hup : (P.al 2).s.down = false := by rw [a2]; exact hn.up
  have hpf : (P.al 2).failed = false := by rw [a6]; exact hn.failed
  have hleft : 1 + 9 * (P.al 2).T.length ≤ (P.al 2).l.left := by
    rw [a1, a3, hn.l]
    show 1 + 9 * 2 ≤ ll - 0
    omega
  have hT : (P.al 2).T ≠ [] := fun e => by rw [e] at a1; cases a1
  have hq : (P.al 2).seq + 1 ≤ 18446744073709551615 := by rw [a5, hn.seq]; omega
  obtain ⟨k1, k2, k3, k4, k5, k6, k7, k8, k9, -, -, -, kv⟩ := com_live h.ok h.sd hup (by rw [a2]; exact hn.fuse) hlf hpf hT (by omega) hleft hq
  have CC := commit_live h hpf hup hlf hq (by rw [a2, hn.wr]; exact Nat.zero_le _) (by omega)
  rw [k1, a1] at CC
  refine CC.mono fun e w' ⟨b1, b2, b3⟩ => ⟨b1, ⟨_, b2, k2, ?_, k4, k5, ?_, k7, ?_, ?_⟩, ft_below (by omega) b3⟩
  · rw [k3, a2]; exact hn.fuse
  · rw [k6]; exact hlf
  · rw [k8, a5]; exact hn.seq
  · have hv : (P.al 2).com.view 0 = (P.al 2).view 0 := by
      have := kv 0 (by omega)
      unfold PS.view at this ⊢
      rw [k2]
      exact this
    unfold PS.used
    rw [hv, a9]
    exact hroom_U 2 0 _ (by omega)
theorem awk_check {Q : PS} (h : PagerAt w B Bp d p c Q) (h1 : Q.T = []) (h2 : Q.s.fuse < 0) (h3 : Q.s.down = false) (h4 : Q.s.wr = []) (h5 : Q.l.failed = false) (h6 : Q.failed = false) (h7 : Q.seq = 1) : Calls Tryz.prog 21 #[.pointer (some ⟨p, 0, none⟩)] w fun e w' => e = .returned (.int .i64 0) ∧ (∃ Q', PagerAt w' B Bp d p c Q' ∧ Q'.s.down = false ∧ Q'.used = Q.used) ∧ Below B w w' := by
  obtain ⟨g1, g3, g4⟩ := h.base
  obtain ⟨k1, k2, k3, k4, k5, k6, k7⟩ := ck_live h.ok h.sd h3 h2 h5 h1
  have CC := check_live h h6 h1 h3 h5 (by omega) (by rw [h4]; exact Nat.zero_le _)
  rw [k2, k1] at CC
  exact CC.mono fun e w' ⟨b1, b2, b3⟩ => ⟨b1, ⟨_, b2, k3, by unfold PS.used; rw [k7]⟩, ft_below (by omega) b3⟩
theorem awk_pages (h : PagerAt w B Bp d p c P) (hd : P.s.down = false) (u : Nat) (hu : P.used = u) (hc : c + 2 < 1000000) : Calls Tryz.prog 34 #[.pointer (some ⟨p, 0, none⟩)] w fun e w' => e = .returned (.int .i64 (u : Int)) ∧ PagerAt w' B Bp d p (c + 2) P ∧ Below B w w' := by
  have := pages_up h hd hc
  rw [hu] at this
  exact this.mono fun e w' ⟨a1, a2, a3⟩ => ⟨a1, a2, pt_below h a3⟩
theorem new_o (n : Nat) (h1 : 1 ≤ n) (h2 : n ≤ 65536) (w : World) : Calls Tryz.prog 10 #[.int .i64 (n : Int)] w fun e w' => ∃ d, e = .returned (.tuple #[.pointer (some ⟨d, 0, none⟩), .int .i64 0]) ∧ DiskO w' w.heap.size d n (fresh n) ∧ Below w.heap.size w w' := by
  refine (new_any w n h1 h2).mono ?_
  rintro e w' ⟨d, sb, mb, rfl, hD, hb, b1, b2, b3⟩
  exact ⟨d, rfl, ⟨sb, mb, _, _, hD, b1, b2, b3, fun g hg => by cases hg⟩, hb⟩
end
set_option maxRecDepth 10000 in
set_option maxHeartbeats 1000000 in
theorem paw_any (w : World) : Calls Tryz.prog 8 #[] w fun e w' => e = .returned (.bool true) ∧ Below w.heap.size w w' := by
  have HN := Lib.hid (new_o 100 (by decide) (by decide) w)
  go_enter Tryz.func8, Tryz.ntmps8
  go_upto_region 2 with (go_at_call 10; refine HN.out.mono ?_; rintro e w1 ⟨d, rfl, hd1, hb1⟩; have D1 := Lib.hid hd1; have B1 := Lib.hid hb1; clear hd1 hb1)
  go_upto_region 3 with (go_at_call 11; refine (fmt_o (ll := 20) D1.out rfl (by decide) (by decide) (by decide) (by decide)).mono ?_; rintro e w2 ⟨rfl, hb2, s2, hF2, hd2⟩; have D2 := Lib.hid hd2; have F2 := Lib.hid hF2; have B2 := Lib.hid (B1.out.trans hb2); clear hd2 hF2 hb2)
  go_upto_region 4 with (go_at_call 12; refine (open_o D2.out F2.out (by decide) (by decide) 8 (by decide) (by decide)).mono ?_; rintro e w3 ⟨P, p, Bp, rfl, hn, hp3, hb3⟩; have P3 := Lib.hid hp3; have N3 := Lib.hid hn; have B3 := Lib.hid (then_ B2.out hb3 B2.out.size); clear hp3 hn hb3)
  have HM := Lib.hid (show Calls Tryz.prog 35 #[.pointer (some ⟨p, 0, none⟩)] w3 fun e w' => e = .returned (.int .i64 9) ∧ Below w3.heap.size w3 w' from by
    have := pmost_any P3.out
    rw [N3.out.most] at this
    exact this)
  have OK3 := Lib.hid P3.out.ok
  go_upto_region 6 with (first
    | (go_at_call 35; refine HM.out.mono ?_; rintro e w4 ⟨rfl, hb4⟩; have P4 := Lib.hid (P3.out.below hb4); have B4 := Lib.hid (then_ B3.out hb4 B3.out.size); clear hb4)
    | (go_at_call 34; refine (awk_pages P4.out N3.out.up 1 N3.out.used (by decide)).mono ?_; rintro e w5 ⟨rfl, hp5, hb5⟩; have P5 := Lib.hid hp5; have B5 := Lib.hid (B4.out.trans hb5); clear hp5 hb5))
  go_upto_region 7 with (go_at_call 14; refine (awk_alloc P5.out N3.out (by decide) (by decide)).mono ?_; rintro e w6 ⟨rfl, hp6, hb6⟩; have P6 := Lib.hid hp6; have B6 := Lib.hid (B5.out.trans hb6); clear hp6 hb6)
  go_wp2_with (first
    | (go_at_call 19; refine (awk_commit P6.out OK3.out N3.out (by decide) (by decide) (by decide)).mono ?_; rintro e w7 ⟨rfl, ⟨Q, hp7, k1, k2, k3, k4, k5, k6, k7, k8⟩, hb7⟩; have K7 := Lib.hid (And.intro hp7 (And.intro k1 (And.intro k2 (And.intro k3 (And.intro k4 (And.intro k5 (And.intro k6 (And.intro k7 k8)))))))); have B7 := Lib.hid (B6.out.trans hb7); clear hp7 hb7 k1 k2 k3 k4 k5 k6 k7 k8)
    | (go_at_call 21; refine (awk_check K7.out.1 K7.out.2.1 K7.out.2.2.1 K7.out.2.2.2.1 K7.out.2.2.2.2.1 K7.out.2.2.2.2.2.1 K7.out.2.2.2.2.2.2.1 K7.out.2.2.2.2.2.2.2.1).mono ?_; rintro e w8 ⟨rfl, ⟨Q2, hp8, j1, j2⟩, hb8⟩; have K8 := Lib.hid (And.intro hp8 (And.intro j1 (j2.trans K7.out.2.2.2.2.2.2.2.2))); have B8 := Lib.hid (B7.out.trans hb8); clear hp8 hb8 j1 j2)
    | (go_at_call 34; refine (awk_pages K8.out.1 K8.out.2.1 2 K8.out.2.2 (by decide)).mono ?_; rintro e w9 ⟨rfl, hp9, hb9⟩; have B9 := Lib.hid (B8.out.trans hb9); clear hp9 hb9))
  go_ret
  exact ⟨rfl, B9.out⟩
end Go.Proofs.YtgfccjijbhoefaaGreatDoor
end
section
namespace Go.Proofs.YtgfccjijbhoefaaGreatDoor
open Go.ChangeShapes Go.WideShapes Go.ChangeAt Go.RowKit
set_option linter.unusedVariables false
set_option linter.unusedSimpArgs false

section
variable {w w' : World} {B Bp d p c N ll room : Nat} {s : St} {P : PS}
theorem pfuse_any (h : PagerAt w B Bp d p c P) (f : Int) (hf : (Lit.int .i64 f).wf = true) : Calls Tryz.prog 22 #[.pointer (some ⟨d, 0, none⟩), .int .i64 f] w fun e w' => e = .returned (.tuple #[]) ∧ PagerAt w' B Bp d p c (P.fused f) ∧ Below B w w' := by
  obtain ⟨g1, g3, g4⟩ := h.base
  obtain ⟨sb, mb, sc, wv, lg, lm, pl, R, h⟩ := h
  refine (fuse_any h.disk f hf).mono ?_
  rintro e w' ⟨rfl, hD, hc, hs⟩
  refine ⟨rfl, ⟨sb, mb, sc, wv, lg, lm, pl, R, { h with
    disk := hD
    log := hc.own (show Own w lg 157 (P.l.cells d) from h.log) fun e => ?_
    own := hc.own h.own fun e => ?_
    map := h.map.keep (hc.block lm h.map.in_ fun e => ?_)
    pool := h.pool.keep hc fun q hq e => ?_
    coh := h.coh.fused f
    ok := h.ok.fused f }⟩, hc.below (by omega) fun q hq => ?_⟩
  · have e : lg = d := e
    subst e
    exact (show Own w lg 157 (P.l.cells lg) from h.log).type_ne h.disk.own (by decide) rfl
  · have e : p = d := e
    subst e
    exact h.own.type_ne h.disk.own (by decide) rfl
  · have e : lm = d := e
    subst e
    exact h.map.ne h.disk.own rfl
  · have e : q = d := e
    subst e
    exact h.not_pt (.inr (.inr (.inr (.inl rfl)))) hq
  · have hq : q = d := hq
    have := h.b1
    omega
/-- Checkpoint of a new pager at a burnt fuse -/
theorem nil_check (h : PagerAt w B Bp d p c (P.fused 0)) (hn : Newp P N ll room) : Calls Tryz.prog 21 #[.pointer (some ⟨p, 0, none⟩)] w fun e w' => e = .returned (.int .i64 11) ∧ (∃ Q, PagerAt w' B Bp d p c Q ∧ Q.s.down = true ∧ Q.failed = true ∧ (ll + 10 ≤ N → ll + 10 ≤ Q.N) ∧ Q.s.wr.length ≤ 300000) ∧ Below B w w' := by
  obtain ⟨g1, g3, g4⟩ := h.base
  have hup : (P.fused 0).s.down = false := hn.up
  obtain ⟨k1, k2, k3⟩ := ck_burnt h.ok hup rfl
  have CC := check_live h (show P.failed = false from hn.failed) (show P.T = [] from hn.T) hup (by show P.l.failed = false; rw [hn.l]) (by show P.seq + 1 ≤ _; rw [hn.seq]; omega) (by show P.s.wr.length ≤ _; rw [hn.wr]; exact Nat.zero_le _)
  refine CC.mono fun e w' ⟨b1, b2, b3⟩ => ⟨by rw [b1, k1], ⟨_, b2, ?_, k3, fun hN => ?_, ?_⟩, ft_below (by omega) b3⟩
  · rw [k2]
  · have e : P.N = N := hn.N
    have e2 : (PS.told (P.fused 0).empR.1 (P.fused 0).emp).N = P.N := by
      rw [(told_s _ _).2.2.2.2.1]
      unfold PS.emp
      split <;> rfl
    omega
  · rw [k2]
    show P.s.wr.length ≤ _
    rw [hn.wr]
    exact Nat.zero_le _
theorem down_open (h : PagerAt w B Bp d p c P) (hd : P.s.down = true) (r : Nat) (h2 : 2 ≤ r) (h6 : r ≤ 65536) : Calls Tryz.prog 12 #[.pointer (some ⟨d, 0, none⟩), .int .i64 (r : Int)] w fun e w' => e = .returned (.tuple #[.pointer none, .int .i64 11]) ∧ w = w' := by
  obtain ⟨sb, mb, sc, wv, hD, -⟩ := h.disk
  exact popen_down hD hd r h2 h6
theorem down_fmt (h : PagerAt w B Bp d p c P) (hd : P.s.down = true) (ll : Nat) (h10 : 10 ≤ ll) (hN : ll + 10 ≤ P.N) (hw : P.s.wr.length ≤ 300000) : Calls Tryz.prog 11 #[.pointer (some ⟨d, 0, none⟩), .int .i64 (ll : Int)] w fun e w' => e = .returned (.int .i64 11) ∧ Below B w w' := by
  obtain ⟨g1, g3, g4⟩ := h.base
  obtain ⟨sb, mb, sc, wv, hD, b1, b2, b3, b4⟩ := h.disk
  have e0 : runW P.N (fmtOps ll) (0, P.s) = (11, P.s) := runW_down P.N _ P.s hd (by rw [fmt_eq]; simp)
  have := fmt_any hD ll h10 hN hw
  rw [e0] at this
  refine this.mono ?_
  rintro e w' ⟨rfl, wv', -, hc, -⟩
  refine ⟨rfl, hc.below (by omega) fun q hq => ?_⟩
  rcases hq with e | e | e | e
  · have e : q = d := e
    omega
  · have e : q = sb := e
    omega
  · have e : q = mb := e
    omega
  · exact b4 q e
end
end Go.Proofs.YtgfccjijbhoefaaGreatDoor
end
section
namespace Go.Proofs.YtgfccjijbhoefaaGreatDoor
open Go.ChangeShapes Go.WideShapes Go.ChangeAt Go.RowKit
set_option linter.unusedVariables false
set_option linter.unusedSimpArgs false

theorem hE_ne (s : ByteArray) : hE s ≠ 1 := by unfold hE; split <;> (try split) <;> (try split) <;> omega
theorem dpg_ne (s : St) (ll no : Nat) : (dpg s ll no).2 ≠ 1 := by
  have := hE_ne (dby s (2 + ll + no * 8))
  unfold dpg Pg.uE
  simp only
  split
  · exact this
  · split <;> omega
theorem base_ne (P : PS) (no : Nat) : (P.base no).2 ≠ 1 := by
  unfold PS.base
  split
  · simp
  · exact dpg_ne _ _ _
theorem view_ne (P : PS) (no : Nat) : (P.view no).2 ≠ 1 := by
  unfold PS.view
  split
  · simp
  · exact base_ne _ _
section
variable {w w' : World} {B B0 Bp d p c : Nat} {P : PS}
theorem ask_below (h : PagerAt w B Bp d p c P) (h0 : B0 ≤ Bp) (hc : Chg (Po.PT w Bp) w w') : Below B0 w w' := by
  obtain ⟨h1, h2, h3⟩ := h.base
  exact hc.below (by omega) fun q hq => by have := hq.1; omega
theorem op_read (h : PagerAt w B Bp d p c P) (hd : P.s.down = false) (no : Int) (hc : c + 4 < 1000000) (h0 : B0 ≤ Bp) : Calls Tryz.prog 36 #[.pointer (some ⟨p, 0, none⟩), .int .i64 no] w fun e w' => (∃ (k : Int) (r : ByteArray) (g : Int), e = .returned (.tuple #[.int .i64 k, .string r, .int .i64 g]) ∧ (g = 1 ↔ no < 0 ∨ (P.used : Int) ≤ no)) ∧ PagerAt w' B Bp d p (c + 4) P ∧ Below B0 w w' := by
  have hb := h.base
  by_cases c1 : no < 0
  · refine (read_neg p no c1 w).mono ?_
    rintro e w' ⟨rfl, rfl⟩
    exact ⟨⟨_, _, _, rfl, by simp [c1]⟩, h.more (by omega), Below.refl _ _⟩
  · by_cases c2 : (P.used : Int) ≤ no
    · refine (read_out h hd no c2 (by omega)).mono ?_
      rintro e w' ⟨rfl, h1, h2⟩
      exact ⟨⟨_, _, _, rfl, by simp [c2]⟩, h1.more (by omega), ask_below h h0 h2⟩
    · obtain ⟨n, rfl⟩ : ∃ n : Nat, no = (n : Int) := ⟨no.toNat, by omega⟩
      refine (read_in h hd n (by omega) hc).mono ?_
      rintro e w' ⟨rfl, h1, h2⟩
      refine ⟨⟨_, _, _, rfl, ?_⟩, h1, ask_below h h0 h2⟩
      have := view_ne P n
      omega
theorem op_root (h : PagerAt w B Bp d p c P) (hd : P.s.down = false) (i : Int) (hc : c + 2 < 1000000) (h0 : B0 ≤ Bp) : Calls Tryz.prog 40 #[.pointer (some ⟨p, 0, none⟩), .int .i64 i] w fun e w' => (∃ (x g : Int), e = .returned (.tuple #[.int .u64 x, .int .i64 g]) ∧ (g = 0 ↔ 0 ≤ i ∧ i < 8)) ∧ PagerAt w' B Bp d p (c + 2) P ∧ Below B0 w w' := by
  have hb := h.base
  by_cases c1 : i < 0 ∨ 8 ≤ i
  · refine (root_out p i c1 w).mono ?_
    rintro e w' ⟨rfl, h1⟩
    exact ⟨⟨_, _, rfl, by omega⟩, (h.below h1).more (by omega), (Chg.of (S := fun _ => False) h1).below (by omega) fun q hq => hq.elim⟩
  · obtain ⟨n, rfl⟩ : ∃ n : Nat, i = (n : Int) := ⟨i.toNat, by omega⟩
    refine (root_in h hd n (by omega) hc).mono ?_
    rintro e w' ⟨rfl, h1, h2⟩
    exact ⟨⟨_, _, rfl, by omega⟩, h1, ask_below h h0 h2⟩
theorem op_pages (h : PagerAt w B Bp d p c P) (hd : P.s.down = false) (u : Nat) (hu : P.used = u) (hc : c + 2 < 1000000) (h0 : B0 ≤ Bp) : Calls Tryz.prog 34 #[.pointer (some ⟨p, 0, none⟩)] w fun e w' => e = .returned (.int .i64 (u : Int)) ∧ PagerAt w' B Bp d p (c + 2) P ∧ Below B0 w w' := by
  have := pages_up h hd hc
  rw [hu] at this
  exact this.mono fun e w' ⟨a1, a2, a3⟩ => ⟨a1, a2, ask_below h h0 a3⟩
theorem op_most (h : PagerAt w B Bp d p c P) (m : Nat) (hm : P.most = m) (h0 : B0 ≤ Bp) : Calls Tryz.prog 35 #[.pointer (some ⟨p, 0, none⟩)] w fun e w' => e = .returned (.int .i64 (m : Int)) ∧ PagerAt w' B Bp d p c P ∧ Below B0 w w' := by
  have hb := h.base
  have := pmost_any h
  rw [hm] at this
  exact this.mono fun e w' ⟨a1, a2⟩ => ⟨a1, h.below a2, (Chg.of (S := fun _ => False) a2).below (by omega) fun q hq => hq.elim⟩
/-- Open of any disk -/
theorem op_open {N sb mb sc : Nat} {wv : Value} {s : St} (hD : DiskAt w d sb mb sc wv N s) (hd : s.down = false) (r : Nat) (h2 : 2 ≤ r) (h6 : r ≤ 65536) : Calls Tryz.prog 12 #[.pointer (some ⟨d, 0, none⟩), .int .i64 (r : Int)] w fun e w' => ((∃ P p Bp, P.s = s ∧ e = .returned (.tuple #[.pointer (some ⟨p, 0, none⟩), .int .i64 0]) ∧ w.heap.size ≤ Bp ∧ PagerAt w' 0 Bp d p 2 P) ∨ e = .returned (.tuple #[.pointer none, .int .i64 19])) ∧ Below w.heap.size w w' := by
  refine (popen_any (B := 0) hD hd (Nat.zero_le _) (Nat.zero_le _) (Nat.zero_le _) (fun _ _ => Nat.zero_le _) r h2 h6).mono ?_
  rintro e w' ⟨⟨P, p, Bp, hP, rfl, hBp, hA⟩ | ⟨-, rfl⟩, hb⟩
  · refine ⟨.inl ⟨P, p, Bp, ?_, rfl, hBp, hA⟩, hb⟩
    unfold opn at hP
    split at hP
    · cases hP
    · split at hP
      · cases hP
      · split at hP
        · injection hP with hP; subst hP; rfl
        · cases hP
  · exact ⟨.inr rfl, hb⟩
end
end Go.Proofs.YtgfccjijbhoefaaGreatDoor
end
section
namespace Go.Proofs.YtgfccjijbhoefaaGreatDoor.pagerNil
open Go.ChangeShapes Go.WideShapes Go.ChangeAt Go.RowKit
open Go.ChangeMaps (open_string shut_string)
set_option linter.unusedVariables false

theorem own : ownKnob Tryz.prog.godebug = none := by kernel_rfl
theorem laidOut : laidOutB Tryz.prog = true := by kernel_rfl

set_option maxRecDepth 10000 in
set_option maxHeartbeats 1000000 in
theorem walk (a0 : Int) (a1 : Int) (a2 : Int) (a3 : ByteArray) (w : World) (w0 : (Lit.int .i64 a0).wf = true) (w1 : (Lit.int .i64 a1).wf = true) (w2 : (Lit.int .i64 a2).wf = true) (w3 : a3.size ≤ maxLen) :
    Calls Tryz.prog 7 #[.int .i64 a0, .int .i64 a1, .int .i64 a2, .string a3] w fun e w' => e = .returned (.bool true) ∧ Below w.heap.size w w' := by
  unfold maxLen at w3
  by_cases h : 1000 < a3.size
  · have t1 : decide ((1000 : Int) < (a3.size : Int)) = true := by simp; omega
    clear h
    go_enter Tryz.func7, Tryz.ntmps7
    go_wp2_with (go_at_call 8; refine (paw_any _).mono ?_; rintro e w1 ⟨rfl, hb1⟩; have B1 := Lib.hid hb1; clear hb1)
    go_ret
    exact ⟨rfl, B1.out⟩
  have t1 : decide ((1000 : Int) < (a3.size : Int)) = false := by simp; omega
  have HRN := Lib.hid (fun W => show Calls Tryz.prog 36 #[.pointer none, .int .i64 a0] W fun e w' => e = .returned (.tuple #[.int .i64 0, .string ⟨#[]⟩, .int .i64 1]) ∧ W = w' from read_nil a0 W)
  have HN := Lib.hid (new_o 100 (by decide) (by decide))
  clear h
  go_enter Tryz.func7, Tryz.ntmps7
  go_upto_region 8 with (first
    | (go_at_call 36; refine (HRN.out _).mono ?_; rintro e w' ⟨rfl, rfl⟩)
    | (go_at_call 14; refine (alloc_nil _ _).mono ?_; rintro e w' ⟨rfl, rfl⟩)
    | (go_at_call 40; refine (root_nil _ _).mono ?_; rintro e w1 ⟨rfl, hb1⟩; have B1 := Lib.hid hb1; clear hb1)
    | (go_at_call 20; refine (abort_nil _).mono ?_; rintro e w' ⟨rfl, rfl⟩))
  go_upto_region 10 with (first
    | (go_at_call 15; refine (pgwrite_nil _ _ _ _).mono ?_; rintro e w' ⟨rfl, rfl⟩)
    | (go_at_call 17; refine (free_nil _ _).mono ?_; rintro e w' ⟨rfl, rfl⟩)
    | (go_at_call 18; refine (setroot_nil _ _ _).mono ?_; rintro e w2 ⟨rfl, hb2⟩; have B2 := Lib.hid (then_ B1.out hb2 B1.out.size); clear hb2)
    | (go_at_call 19; refine (commit_nil _).mono ?_; rintro e w' ⟨rfl, rfl⟩)
    | (go_at_call 21; refine (check_nil _).mono ?_; rintro e w' ⟨rfl, rfl⟩)
    | (go_at_call 34; refine (pages_nil _).mono ?_; rintro e w' ⟨rfl, rfl⟩)
    | (go_at_call 35; refine (most_nil _).mono ?_; rintro e w' ⟨rfl, rfl⟩)
    | (go_at_call 33; refine (dirty_nil' _).mono ?_; rintro e w' ⟨rfl, rfl⟩))
  go_upto_region 11 with (go_at_call 10; refine (HN.out _).mono ?_; rintro e w3 ⟨d, rfl, hd3, hb3⟩; have D3 := Lib.hid hd3; have B3 := Lib.hid hb3; clear hd3 hb3)
  go_upto_region 12 with (go_at_call 11; refine (fmt_o (ll := 20) D3.out rfl (by decide) (by decide) (by decide) (by decide)).mono ?_; rintro e w4 ⟨rfl, hb4, s4, hF4, hd4⟩; have D4 := Lib.hid hd4; have F4 := Lib.hid hF4; have B4 := Lib.hid (B3.out.trans hb4); clear hd4 hF4 hb4)
  go_upto_region 13 with (go_at_call 12; refine (open_o D4.out F4.out (by decide) (by decide) 8 (by decide) (by decide)).mono ?_; rintro e w5 ⟨P, p, Bp, rfl, hn, hp5, hb5⟩; have P5 := Lib.hid hp5; have N5 := Lib.hid hn; have B5 := Lib.hid (then_ B4.out hb5 B4.out.size); clear hp5 hn hb5)
  go_upto_region 14 with (go_at_call 22; refine (pfuse_any P5.out 0 (by decide)).mono ?_; rintro e w6 ⟨rfl, hp6, hb6⟩; have P6 := Lib.hid hp6; have B6 := Lib.hid (B5.out.trans hb6); clear hp6 hb6)
  go_upto_region 16 with (go_at_call 21; refine (nil_check P6.out N5.out).mono ?_; rintro e w7 ⟨rfl, ⟨Q, hp7, k1, k2, k3, k4⟩, hb7⟩; have P7 := Lib.hid hp7; have K7 := Lib.hid (And.intro k1 k2); have K8 := Lib.hid (And.intro (k3 (by decide)) k4); have B7 := Lib.hid (B6.out.trans hb7); clear hp7 hb7 k1 k2 k3 k4)
  have HRD := Lib.hid (show Calls Tryz.prog 36 #[.pointer (some ⟨p, 0, none⟩), .int .i64 0] w7 fun e w' => e = .returned (.tuple #[.int .i64 0, .string ⟨#[]⟩, .int .i64 11]) ∧ w7 = w' from read_down P7.out K7.out.1 0 (by decide))
  go_upto_region 18 with (first
    | (go_at_call 36; refine HRD.out.mono ?_; rintro e w' ⟨rfl, rfl⟩)
    | (go_at_call 12; refine (down_open P7.out K7.out.1 8 (by decide) (by decide)).mono ?_; rintro e w' ⟨rfl, rfl⟩))
  go_wp2_with (first
    | (go_at_call 8; refine (paw_any _).mono ?_; rintro e w8 ⟨rfl, hb8⟩; have P8 := Lib.hid (P7.out.below hb8); have B8 := Lib.hid (then_ B7.out hb8 (by have := P7.out.base; omega)); clear hb8)
    | (go_at_call 34; refine (pages_down P8.out K7.out.1).mono ?_; rintro e w' ⟨rfl, rfl⟩)
    | (go_at_call 19; refine (commit_failed P8.out K7.out.2).mono ?_; rintro e w' ⟨rfl, rfl⟩)
    | (go_at_call 21; refine (check_failed P8.out K7.out.2).mono ?_; rintro e w' ⟨rfl, rfl⟩)
    | (go_at_call 11; refine (down_fmt P8.out K7.out.1 20 (by decide) K8.out.1 K8.out.2).mono ?_; rintro e w9 ⟨rfl, hb9⟩; have B9 := Lib.hid (B8.out.trans hb9); clear hb9))
  go_ret
  have z2 := B2.out.size
  exact ⟨rfl, then_ B2.out B9.out z2⟩

def litV : DataW Unit → Value
  | .lit (.int k n) => .int k n
  | _ => .int .u8 0
def rowV : DataW Unit → Array Value
  | .agg l => (l.map litV).toArray
  | _ => #[]
/-- A WORLD FOR THE WITNESS: the door's, and the pinned table as it is pinned. -/
noncomputable def laidWorld (os : Os) : World :=
  { World.doorLaid Tryz.prog 400 os with heap := (World.doorLaid Tryz.prog 400 os).heap.modify 1 fun
      | .cells _ t frozen => .cells (rowV Go.Pinned.utf8First) t frozen
      | o => o }
theorem laid_met (os : Os) : laidMet Tryz.prog Rows.pagerNilRow.laid ((laidWorld os).forCall (fun _ _ => 0) ⟨#[], #[.int .i64 0, .int .i64 0, .int .i64 0, .string ByteArray.empty], []⟩).memory :=
  laidMet_of_run' 8 (by kernel_rfl) (by kernel_rfl)
theorem reads (os : Os) {H : Type} (enc : TypeId × Value → H) : ∃ places, DataW.whole enc Tryz.prog ((laidWorld os).forCall (fun _ _ => 0) ⟨#[], #[.int .i64 0, .int .i64 0, .int .i64 0, .string ByteArray.empty], []⟩).memory Tryz.f7.params.toList Rows.pagerNilSpec.vars false (#[.int .i64 0, .int .i64 0, .int .i64 0, .string ByteArray.empty] : Array Value).toList 8 = some ([.lit (.int .i64 0), .lit (.int .i64 0), .lit (.int .i64 0), .lit (.string [])], [], places) :=
  ⟨[], by kernel_rfl⟩
set_option maxRecDepth 100000 in
theorem lifted (os : Os) (started : os.Started) (H : Type) (enc : TypeId × Value → H) (F : Stop.Interp) :
    ReturnsInHanded {} Tryz.checked os 7 .any ((OpenSpec.ofChange Rows.pagerNilSpec).preRow enc Tryz.prog Tryz.f7 Rows.pagerNilRow.domain false Rows.pagerNilRow.laid) (((OpenSpec.ofChange Rows.pagerNilSpec).at F).post enc Tryz.prog Tryz.f7 false true false false) := by
  obtain ⟨places, hx⟩ := reads os enc
  refine returnsInHanded_of_row (C := Tryz.checked) (s := OpenSpec.ofChange Rows.pagerNilSpec) own started (by kernel_rfl) Tryz.func7
    (witness_row_at (enc := enc) (C := Tryz.checked) false (laidWorld os) #[.int .i64 0, .int .i64 0, .int .i64 0, .string ByteArray.empty] rfl (by kernel_rfl) (by kernel_rfl) (by kernel_rfl)
      (OpenSpec.preRow_of_cond 8 hx (by kernel_rfl) (fun k hk => by cases hk) (by kernel_rfl) (laid_met os))) ?_
  intro W base args ds gs before hval0 hW _ _ _ hL _ _
  have hval : ∀ (j : Nat) t v, Tryz.f7.params[j]? = some t → args[j]? = some v → Value.okWide Tryz.prog W .any base t v := hval0
  have hW' := hW
  obtain ⟨p, q, hA0, hV, rfl, hfz, hnd⟩ := hW
  have hA : DataW.TrodAll enc Tryz.prog W 0 (fun _ => true) true Tryz.f7.params.toList args.toList ds p := hA0
  rw [Tryz.params7] at hA hval
  obtain ⟨v0, vs0, d0, ds0, p0, q0, hargs, rfl, rfl, h0, r0⟩ := trodAll_cons hA
  obtain ⟨v1, vs1, d1, ds1, p1, q1, rfl, rfl, rfl, h1, r1⟩ := trodAll_cons r0
  obtain ⟨v2, vs2, d2, ds2, p2, q2, rfl, rfl, rfl, h2, r2⟩ := trodAll_cons r1
  obtain ⟨v3, vs3, d3, ds3, p3, q3, rfl, rfl, rfl, h3, r3⟩ := trodAll_cons r2
  obtain ⟨rfl, rfl, rfl⟩ := trodAll_nil r3
  obtain rfl : args = #[v0, v1, v2, v3] := by cases args; simp_all
  obtain ⟨rfl, rfl⟩ := trodVars_none hV
  obtain ⟨a0, rfl, rfl, rfl, w0⟩ := open_int Tryz.underlying3 (hval 0 3 v0 rfl rfl) h0
  obtain ⟨a1, rfl, rfl, rfl, w1⟩ := open_int Tryz.underlying3 (hval 1 3 v1 rfl rfl) h1
  obtain ⟨a2, rfl, rfl, rfl, w2⟩ := open_int Tryz.underlying3 (hval 2 3 v2 rfl rfl) h2
  obtain ⟨a3, rfl, rfl, rfl, w3⟩ := open_string Tryz.underlying9 (hval 3 9 v3 rfl rfl) h3
  clear hA0 hval0
  refine (walk a0 a1 a2 a3 W w0 w1 w2 w3).mono fun e W' ⟨he, bel⟩ => ?_
  subst he
  exact ⟨_, rfl, _, _, _, [], _, [], hW', trodAll_mk1 (shut_bool Tryz.underlying4 _), (trodAll_cons_mk (shut_int Tryz.underlying3 w0) (trodAll_cons_mk (shut_int Tryz.underlying3 w1) (trodAll_cons_mk (shut_int Tryz.underlying3 w2) (trodAll_cons_mk (shut_string Tryz.underlying9 w3) trodAll_mk0)))), rfl, bel.frame _, fun h => by cases h⟩

theorem over : Rows.PagerNilSaid :=
  OpenClaim.holds_of_cond 7 Tryz.f7 rfl rfl rfl rfl rfl rfl rfl ⟨rfl, rfl, rfl, rfl, rfl⟩ rfl rfl rfl rfl rfl (by kernel_rfl) Tryz.func7 (by kernel_rfl)
    (of_decide_eq_true (by kernel_rfl)) (by unfold Func.isWrapper; first | (rw [if_pos (by decide +kernel)]; kernel_rfl) | (rw [if_neg (by decide +kernel)]; exact ⟨rfl, rfl⟩))
    (fun os started H enc _ F => by rw [OpenClaim.pre_eq_preRow]; exact lifted os started H enc F)

/-- THE STATEMENT -/
theorem proved : Rows.PagerNilCardSaid :=
  Claim7.holds_tied_plain_at .later [] [.data, .pinned] true (true, "08d11d8e5219d0446b8e6d056b0c86cd1ca55044131476e0a14d1667fe677d17") false
    over (fun _ h => by cases h) (by kernel_rfl) (fun _ h => by cases h) pagerNil_row_tie rfl ⟨rfl, rfl⟩ (by kernel_rfl) rfl
    (fun f fn hf hfn => by
      obtain rfl : f = 7 := Option.some.inj ((show Tryz.prog.funcNamed "croft/croftlaw11.PagerNil" = some 7 by kernel_rfl).symm.trans hf) |>.symm
      obtain rfl : fn = Tryz.f7 := (Option.some.inj (Tryz.func7.symm.trans hfn)).symm
      exact ⟨by kernel_rfl, fun j t ht => by
        rw [Tryz.params7] at ht
        have hm : t ∈ [3, 3, 3, 9] := by simpa using Array.mem_of_getElem? ht
        have hall : ([3, 3, 3, 9].all fun u => !Tryz.prog.wantsStandIn u) = true := by kernel_rfl
        exact (show Tryz.prog.wantsStandIn t = false by simpa using List.all_eq_true.1 hall t hm)⟩)
    (by kernel_rfl)
#print axioms proved
end Go.Proofs.YtgfccjijbhoefaaGreatDoor.pagerNil
end
