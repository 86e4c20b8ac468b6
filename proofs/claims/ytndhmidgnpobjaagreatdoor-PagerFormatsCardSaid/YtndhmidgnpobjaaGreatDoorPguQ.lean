/- merged: What a pager is behind Commit and Checkpoint, in memory: from the blocks without the pool to the whole. Conditions: those that each theorem names. The contract of a pager's Commit. Conditions: a disk that isn't down unless a call has ended so. The contract of a pager's Checkpoint. Conditions: a disk that isn't down unless a call has ended so. -/
import Derived.Test.YtndhmidgnpobjaaGreatDoorPguL
section
namespace Go.Proofs.YtndhmidgnpobjaaGreatDoor
open Go.ChangeShapes Go.WideShapes Go.ChangeAt Go.RowKit
set_option linter.unusedVariables false
set_option linter.unusedSimpArgs false

section
variable {w w' : World} {B Bp d p c sb mb sc lg lm pl : Nat} {wv : Value} {R : List Po.RF} {P P' : PS}
theorem Pgr.raw (h : Pgr w B Bp d p c sb mb sc wv lg lm pl R P) : Raw w p lg lm d sb mb sc wv (.int .i64 (P.room : Int)) (.pointer (some ⟨pl, 0, none⟩)) P := ⟨h.disk, h.log, h.own, h.map, h.a4⟩
theorem Pgr.own_case (h : Pgr w B Bp d p c sb mb sc wv lg lm pl R P) {wv' : Value} (hv : wv'.ownBlock = wv.ownBlock ∨ wv'.ownBlock = none ∨ ∃ g, wv'.ownBlock = some g ∧ w.heap.size ≤ g) : ∀ g, wv'.ownBlock = some g → B ≤ g := fun g hg => by
  rcases hv with e | e | ⟨g', e, hg'⟩
  · exact h.b4 g (e ▸ hg)
  · rw [e] at hg; cases hg
  · rw [e] at hg
    injection hg with hg
    have := h.pool.base
    have := h.b8
    omega
/-- what such a step turns -/
theorem Pgr.ft (h : Pgr w B Bp d p c sb mb sc wv lg lm pl R P) (hc : Chg (fun q => fp d sb mb wv q ∨ q = p ∨ q = lm ∨ q = lg) w w') : Chg (FT w B sb) w w' := hc.mono fun q _ e => by
  rcases e with e | e | e | e
  · exact ft_fp h.disk h.b1 h.b2 h.b3 h.b4 e
  · subst e; exact ⟨h.b7, .inr (.inr ⟨_, _, _, h.own, .inr (.inr (.inr (.inl rfl)))⟩)⟩
  · subst e
    obtain ⟨es, ck, hb, _⟩ := h.map
    exact ⟨h.b6, .inl ⟨es, ck, hb⟩⟩
  · subst e; exact ⟨h.b5, .inr (.inr ⟨_, _, _, (show Own w q 207 (P.l.cells d) from h.log), .inr (.inr (.inl rfl))⟩)⟩
theorem Pgr.pool_keep (h : Pgr w B Bp d p c sb mb sc wv lg lm pl R P) (hc : Chg (fun q => fp d sb mb wv q ∨ q = p ∨ q = lm ∨ q = lg) w w') : Po.PoolAt w' Bp pl P.room c R := h.pool.keep hc fun q hq e => by
  rcases e with e | e | e | e
  · exact h.not_pt (.inr (.inr (.inr e))) hq
  · exact h.not_pt (.inr (.inl e)) hq
  · exact h.not_pt (.inr (.inr (.inl e))) hq
  · exact h.not_pt (.inl e) hq
/-- from the blocks to the pager, with other frames -/
theorem Pgr.lift (h : Pgr w B Bp d p c sb mb sc wv lg lm pl R P) {wv' : Value} {c' : Nat} {R' : List Po.RF} (hr : Raw w' p lg lm d sb mb sc wv' (.int .i64 (P.room : Int)) (.pointer (some ⟨pl, 0, none⟩)) P') (hv : ∀ g, wv'.ownBlock = some g → B ≤ g) (hp : Po.PoolAt w' Bp pl P.room c' R') (hR : Coh P' R') (hk : P'.Ok) (hm : P'.room = P.room) : Pgr w' B Bp d p c' sb mb sc wv' lg lm pl R' P' :=
  { h with
    disk := hr.disk
    log := hr.log
    own := by have := hr.own; unfold PS.cells; rw [hm]; exact this
    map := hr.map
    pool := by rw [hm]; exact hp
    coh := hR
    ok := hk
    b4 := hv }
end
/-- what Commit answers, and what it leaves -/
def PS.comE (P : PS) : Int := if P.failed = true then 17 else if P.T = [] then 0 else if 64 < P.T.length then 10 else P.entR.1
def PS.done (P : PS) : PS := { P.ent with M := insAll P.ent.M P.T, T := [] }
def PS.com (P : PS) : PS := if P.failed = true ∨ P.T = [] ∨ 64 < P.T.length then P else if P.entR.1 = 0 then P.done else P.ent
section
variable {P : PS} {R : List Po.RF}
theorem ent_T (P : PS) : P.ent.T = P.T ∧ P.ent.N = P.N ∧ P.ent.ll = P.ll ∧ P.ent.room = P.room := by
  have key : P.entR.2.T = P.T ∧ P.entR.2.N = P.N ∧ P.entR.2.ll = P.ll ∧ P.entR.2.room = P.room := by
    have he : P.emp.T = P.T ∧ P.emp.N = P.N ∧ P.emp.ll = P.ll ∧ P.emp.room = P.room := by unfold PS.emp; split <;> exact ⟨rfl, rfl, rfl, rfl⟩
    unfold PS.entR
    split
    · exact ⟨rfl, rfl, rfl, rfl⟩
    · split
      · split
        · exact he
        · exact he
      · exact ⟨rfl, rfl, rfl, rfl⟩
  unfold PS.ent PS.told
  split
  · exact key
  · exact key
theorem done_base (h : P.Ok) (k : Kin P P.ent) {no : Nat} (hno : no < P.most) : P.done.base no = P.view no := by
  have hb := k.base no hno
  unfold PS.base at hb
  unfold PS.done PS.base PS.view
  simp only
  rw [lk_insAll k.M.1 P.T h.T.1]
  cases hT : lk P.T no with
  | some x => rfl
  | none => exact hb
theorem done_ok (h : P.Ok) (k : Kin P P.ent) (hq : P.seq + 1 ≤ 18446744073709551615) : P.done.Ok := by
  have hE := k.ok h hq
  have hm : P.done.most = P.most := k.most
  have hm1 := h.most
  have hv : P.done.base 0 = P.view 0 := done_base h k (by omega)
  have hv2 : P.done.view 0 = P.view 0 := hv
  exact { hE with
    M := ⟨asc_insAll _ k.M.1, fun q hq => by
      rw [hm]
      rcases mem_insAll hq with hq | hq
      · exact h.T.2 q hq
      · exact k.M.2 q hq⟩
    T := ⟨by simp [PS.done, asc], by simp [PS.done]⟩
    few := Nat.zero_le _
    hd := by rw [hm, hv2]; exact h.hd
    hd0 := by rw [hv2]; exact h.hd0
    bd := by rw [hm, hv]; exact h.hd
    bd0 := by rw [hv]; exact h.hd0 }
theorem done_coh (h : P.Ok) (k : Kin P P.ent) (hR : Coh P R) : Coh P.done (Po.cleanR R) := by
  have hm : P.done.most = P.most := k.most
  refine ⟨fun f hf => ?_, fun q hq => by cases hq⟩
  obtain ⟨f0, hf0, rfl⟩ := List.mem_map.1 hf
  obtain ⟨no, x, e, hn, hx, hs, hp, ht, hc⟩ := hR.good f0 hf0
  refine ⟨no, x, e, by rw [hm]; exact hn, hx, hs, hp, (fun hd => by cases hd), fun _ => ⟨rfl, ?_⟩⟩
  rw [done_base h k hn]
  unfold PS.view
  cases hd : f0.dirty with
  | true => rw [ht hd]
  | false =>
    obtain ⟨h1, h2⟩ := hc hd
    rw [h1]
    exact h2
end
end Go.Proofs.YtndhmidgnpobjaaGreatDoor
end
section
namespace Go.Proofs.YtndhmidgnpobjaaGreatDoor
open Go.ChangeShapes Go.WideShapes Go.ChangeAt Go.RowKit
set_option linter.unusedVariables false
set_option linter.unusedSimpArgs false

section
variable {w w' : World} {B Bp d p c : Nat} {P : PS}
theorem row_out {lg lm sb mb sc B0 n cp g : Nat} {wv x5 x6 : Value} {M : List (Nat × Pag)} (h : Raw w p lg lm d sb mb sc wv x5 x6 P) (hr : w.ownsRow B0 112 3 (.slice (some ⟨g, 0, none⟩) n cp) n (shR M)) (hn : M ≠ []) : ¬ (fp d sb mb wv g ∨ g = p ∨ g = lm ∨ g = lg) := by
  obtain ⟨-, -, cur, hb⟩ := row_cur hr (g := g) rfl
  exact fun k => by
    rcases k with k | k | k | k
    · exact row_fp h.disk hr hn k
    · exact (show Own w g 112 cur from hb).type_ne h.own (by decide) k
    · exact h.map.ne (show Own w g 112 cur from hb) k.symm
    · exact (show Own w g 112 cur from hb).type_ne (show Own w lg 207 (P.l.cells d) from h.log) (by decide) k
theorem Raw.not_pt {lg lm sb mb sc : Nat} {wv x5 x6 : Value} (h : Raw w p lg lm d sb mb sc wv x5 x6 P) (a1 : sb < Bp) (a2 : mb < Bp) (a3 : lm < Bp) {q : Nat} (hq : fp d sb mb wv q ∨ q = p ∨ q = lm ∨ q = lg) : ¬ Po.PT w Bp q := fun k => by
  have key : ∀ {T : TypeId} {cs : Array Value}, w.heap[q]? = some (.cells cs T (0, 0)) → T ≠ 216 → T ≠ 229 → False := fun ho h1 h2 => by
    rcases k.2 with ⟨es, ck, h⟩ | ⟨cs', h⟩ | ⟨cs', h⟩
    · rw [ho] at h; cases h
    · unfold Own at h
      rw [ho] at h
      injection h with h
      injection h with e1 e2
      exact h1 e2
    · unfold Own at h
      rw [ho] at h
      injection h with h
      injection h with e1 e2
      exact h2 e2
  rcases hq with (e | e | e | e) | e | e | e
  · subst e; exact key h.disk.own (by decide) (by decide)
  · subst e; have := k.1; omega
  · subst e; have := k.1; omega
  · rcases h.disk.wrs.2 with ⟨h6, _⟩ | ⟨g6, c6, u6, h6, _, h7, _⟩
    · rw [h6] at e; cases e
    · rw [h6] at e
      injection e with e
      have e : g6 = q := e
      subst e
      exact key h7 (by decide) (by decide)
  · subst e; exact key h.own (by decide) (by decide)
  · subst e; have := k.1; omega
  · subst e; exact key (show Own w q 207 (P.l.cells d) from h.log) (by decide) (by decide)
theorem Raw.keep {lg lm sb mb sc : Nat} {wv x5 x6 : Value} {Z : Nat → Prop} (h : Raw w p lg lm d sb mb sc wv x5 x6 P) (hc : Chg Z w w') (hz : ∀ q, (fp d sb mb wv q ∨ q = p ∨ q = lm ∨ q = lg) → ¬ Z q) : Raw w' p lg lm d sb mb sc wv x5 x6 P :=
  ⟨h.disk.keep hc fun q hq => hz q (.inl hq), hc.own (show Own w lg 207 (P.l.cells d) from h.log) (hz lg (.inr (.inr (.inr rfl)))), hc.own h.own (hz p (.inr (.inl rfl))), h.map.keep (hc.block lm h.map.in_ (hz lm (.inr (.inr (.inl rfl))))), h.ne⟩
set_option maxRecDepth 10000 in
set_option maxHeartbeats 4000000 in
theorem commit_live (h : PagerAt w B Bp d p c P) (hf : P.failed = false) (hd : P.s.down = false) (hlf : P.l.failed = false) (hq : P.seq + 1 ≤ 18446744073709551615) (hfew : P.s.wr.length ≤ 20000) (hc : c + P.T.length < 1000000) :
    Calls Tryz.prog 22 #[.pointer (some ⟨p, 0, none⟩)] w fun e w' => e = .returned (.int .i64 P.comE) ∧ PagerAt w' B Bp d p (c + P.T.length) P.com ∧ ∀ S, SureB w d S → SureB w' d S ∧ Chg (FT w B S) w w' := by
  have CH := changed_any h hc
  have HSA := Lib.hid (fun w' (hc : Chg (Po.PT w Bp) w w') S (hS : SureB w d S) => h.sure_ask hc hS)
  obtain ⟨lg0, lm0, pl0, ho⟩ := h.cells
  rw [hf] at ho
  have HO := Lib.hid ho
  have EC := Lib.hid (show P.comE = (if P.T = [] then 0 else if 64 < P.T.length then 10 else P.entR.1) by unfold PS.comE; rw [if_neg (by rw [hf]; simp)])
  have EP := Lib.hid (show P.com = (if P.T = [] ∨ 64 < P.T.length then P else if P.entR.1 = 0 then P.done else P.ent) by
    unfold PS.com
    by_cases c : P.T = [] ∨ 64 < P.T.length
    · rw [if_pos (.inr c), if_pos c]
    · rw [if_neg (by rw [hf]; simpa using c), if_neg c])
  have hok := h.ok
  obtain ⟨n, hn⟩ : ∃ n, n = P.T.length := ⟨_, rfl⟩
  have HN := Lib.hid hn
  have hnr : n ≤ 65536 := by have := hok.few; have := hok.r6; omega
  rw [← hn] at CH EC EP hc ⊢
  replace CH := Lib.hid CH
  have HOK := Lib.hid hok
  have HLV := Lib.hid (And.intro hd hlf)
  have hcz := h.base
  obtain ⟨rE, hrE⟩ : ∃ rE, rE = P.comE := ⟨_, rfl⟩
  obtain ⟨rP, hrP⟩ : ∃ rP, rP = P.com := ⟨_, rfl⟩
  rw [← hrE] at EC ⊢
  rw [← hrP] at EP ⊢
  obtain ⟨q1, q2, q3⟩ := ho.at_
  clear h ho hf hd hlf hn hok hrE hrP
  by_cases h0 : P.T = []
  · have n0 : n = 0 := by rw [HN.out, h0]; rfl
    subst n0
    have EE := EC.out
    rw [if_pos h0] at EE
    have PP := EP.out
    rw [if_pos (.inl h0)] at PP
    replace EE := Lib.hid EE
    replace PP := Lib.hid PP
    clear EC EP h0
    go_enter Tryz.func22, Tryz.ntmps22
    go_wp2_with (go_at_call 82; refine CH.out.mono ?_; rintro e w2 ⟨v, rfl, hrow, hA⟩; have A2 := Lib.hid hA; obtain ⟨va, vc, rfl⟩ : ∃ va vc, v = .slice va 0 vc := (by rcases hrow.2 with ⟨e1, e2⟩ | ⟨g, cap, cur, e1, _⟩; exact ⟨none, 0, by rw [e1]⟩; exact ⟨_, cap, e1⟩); clear hrow hA)
    go_ret
    rw [EE.out, PP.out]
    exact ⟨rfl, A2.out.1, fun S hS => ⟨HSA.out _ A2.out.2 S hS, A2.out.2.mono fun q _ hq => ft_pt hcz.2.1 hq⟩⟩
  by_cases h64 : 64 < n
  · have EE := EC.out
    rw [if_neg h0, if_pos h64] at EE
    have PP := EP.out
    rw [if_pos (.inr h64)] at PP
    replace EE := Lib.hid EE
    replace PP := Lib.hid PP
    have t0 : ((n : Int) == 0) = false := by simp; omega
    have t1 : decide ((64 : Int) < (n : Int)) = true := by simp; omega
    clear EC EP h0 h64
    go_enter Tryz.func22, Tryz.ntmps22
    go_wp2_with (go_at_call 82; refine CH.out.mono ?_; rintro e w2 ⟨v, rfl, hrow, hA⟩; have A2 := Lib.hid hA; obtain ⟨va, vc, rfl⟩ : ∃ va vc, v = .slice va n vc := (by rcases hrow.2 with ⟨e1, e2⟩ | ⟨g, cap, cur, e1, _⟩; exact ⟨none, 0, by rw [e1, e2]⟩; exact ⟨_, cap, e1⟩); clear hrow hA)
    go_ret
    rw [EE.out, PP.out]
    exact ⟨rfl, A2.out.1, fun S hS => ⟨HSA.out _ A2.out.2 S hS, A2.out.2.mono fun q _ hq => ft_pt hcz.2.1 hq⟩⟩
  have EE := EC.out
  rw [if_neg h0, if_neg h64] at EE
  have PP := EP.out
  rw [if_neg (fun e => e.elim h0 h64)] at PP
  have t0 : ((n : Int) == 0) = false := by
    have : n ≠ 0 := fun e => h0 (List.eq_nil_of_length_eq_zero (by rw [← HN.out]; exact e))
    simp; omega
  have t1 : decide ((64 : Int) < (n : Int)) = false := by simp; omega
  have H0 := Lib.hid h0
  have HQ := Lib.hid hq
  have HFW := Lib.hid hfew
  replace EE := Lib.hid EE
  replace PP := Lib.hid PP
  have h64' : n ≤ 64 := by omega
  clear EC EP h0 h64 hq hfew
  go_enter Tryz.func22, Tryz.ntmps22
  go_upto_region 10 with (go_at_call 82; refine CH.out.mono ?_; rintro e w2 ⟨v, rfl, hrow, hA⟩; have A2 := Lib.hid hA; have W2 := Lib.hid hrow; obtain ⟨va, vc, rfl⟩ : ∃ va vc, v = .slice va n vc := (by rcases hrow.2 with ⟨e1, e2⟩ | ⟨g, cap, cur, e1, _⟩; exact ⟨none, 0, by rw [e1, e2]⟩; exact ⟨_, cap, e1⟩); clear hrow hA)
  obtain ⟨⟨sb, mb, sc, wv, lg, lm, pl, R, H2⟩, C2⟩ := A2.out
  have hrow2 := W2.out
  rw [HN.out] at hrow2
  have ENT := enter_any H2.raw HOK.out HLV.out.1 HLV.out.2 H0.out (by rw [← HN.out]; exact h64') HQ.out HFW.out (.slice va P.T.length vc) hrow2
  rw [← HN.out] at ENT
  have KIN := Lib.hid (PS.ent_kin HOK.out (Sd.of H2.disk.ok) HLV.out.1 HLV.out.2 H0.out (by rw [← HN.out]; exact h64') HQ.out)
  obtain ⟨e0, he0⟩ : ∃ e0, e0 = P.entR.1 := ⟨_, rfl⟩
  rw [← he0] at ENT KIN EE PP
  have HH2 := Lib.hid H2
  have HC2 := Lib.hid C2
  replace ENT := Lib.hid ENT
  clear H2 C2 hrow2 he0 q1 q2 q3
  go_upto_region 11 with (go_at_call 83; refine ENT.out.mono ?_; rintro e w3 ⟨rfl, hr3⟩; have R3 := Lib.hid hr3; clear hr3)
  obtain ⟨wv3, k3, kc3, kv3⟩ := R3.out
  by_cases ce : e0 = 0
  · subst ce
    have PP2 := PP.out
    rw [if_pos rfl] at PP2
    replace PP2 := Lib.hid PP2
    obtain ⟨g, rfl⟩ : ∃ g, va = some ⟨g, 0, none⟩ := by
      rcases W2.out.2 with ⟨e1, e2⟩ | ⟨g, cap, cur, e1, _⟩
      · rw [e2] at t0; simp at t0
      · injection e1 with e1 _ _; exact ⟨g, e1⟩
    have ng := row_out HH2.out.raw W2.out H0.out
    have W3 := Lib.hid (Po.ownsRow_keepB W2.out fun g' e => kc3.block g' (row_cur W2.out e).2.1 fun k => by
      obtain rfl : g = g' := by simpa [Value.ownBlock] using e
      exact ng k)
    have ng3 : lm ≠ g := by
      obtain ⟨-, -, cur, hb⟩ := row_cur W3.out (g := g) rfl
      exact k3.map.ne (show Own w3 g 112 cur from hb)
    have hpm := k3.npm
    have HT := Lib.hid (HOK.out.T.1)
    obtain ⟨E, hE⟩ : ∃ E, E = P.ent := ⟨_, rfl⟩
    rw [← hE] at k3
    have hEM : asc E.M := by rw [hE]; exact KIN.out.1.M.1
    have HEE := Lib.hid hE
    have K3 := Lib.hid k3
    have KC3 := Lib.hid (And.intro kc3 kv3)
    have O3 := Lib.hid k3.own
    have M3 := Lib.hid k3.map
    have HEM := Lib.hid hEM
    clear hE hEM k3 kc3 kv3 ng ENT CH A2 HO R3
    go_wp2
    go_loopw [33] (fun i wr => ∃ k : Nat, k ≤ n ∧ i = .int .i64 (k : Int) ∧ MapOf wr lm .i64 ((insAll E.M (P.T.take k)).map entM) ∧ Chg (· = lm) w3 wr) (fun i wr => n - (intOf i).toNat)
    case atStart => exact ⟨0, by omega, rfl, M3.out, Chg.refl _ _⟩
    case round =>
      obtain ⟨k, hk, rfl, hm, hch⟩ := hrel
      by_cases hlt : k < n
      · obtain ⟨q, hq⟩ : ∃ q, P.T[k]? = some q := ⟨_, List.getElem?_eq_getElem (by rw [← HN.out]; exact hlt)⟩
        have hrw : wr.ownsRow w.heap.size 112 3 (.slice (some ⟨g, 0, none⟩) n vc) n (shR P.T) := Po.ownsRow_keepB W3.out fun g' e => hch.block g' (row_cur W3.out e).2.1 fun k => by
          obtain rfl : g = g' := by simpa [Value.ownBlock] using e
          exact ng3 (Eq.symm k)
        obtain ⟨c0, c1, c2⟩ := shR_at P.T hq
        have k0 : wr.cell? ⟨g, k * 3, none⟩ = some (.int .i64 (q.1 : Int)) := by rw [World.ownsRow.cellAt hrw (k * 3) (by omega), c0]
        have k1 : wr.cell? ⟨g, k * 3 + 1, none⟩ = some (.int .i64 (q.2.1 : Int)) := by rw [World.ownsRow.cellAt hrw (k * 3 + 1) (by omega), c1]
        have k2 : wr.cell? ⟨g, k * 3 + 2, none⟩ = some (.string q.2.2) := by rw [World.ownsRow.cellAt hrw (k * 3 + 2) (by omega), c2]
        have EK := Lib.hid (show insAll E.M (P.T.take (k + 1)) = ins q.1 q.2 (insAll E.M (P.T.take k)) by rw [List.take_add_one, hq]; show insAll E.M (P.T.take k ++ [q]) = _; rw [insAll_snoc])
        have AK := Lib.hid (asc_insAll (P.T.take k) HEM.out)
        obtain ⟨Mk, hMk⟩ : ∃ Mk, Mk = insAll E.M (P.T.take k) := ⟨_, rfl⟩
        rw [← hMk] at hm EK AK
        have HM := Lib.hid hm
        have HCH := Lib.hid hch
        have OP := Lib.hid (hch.own O3.out (fun e => hpm (Eq.symm e)))
        clear hm hch hrw c0 c1 c2 hq hMk
        go_upto_region 16 with fail
        have B1 : Below wr.heap.size wr (wr.alloc (.cells #[.int .i64 (q.1 : Int), .int .i64 (q.2.1 : Int), .string q.2.2] 112)) := box_one _ _ _
        have Q1 := Own.made wr 112 #[.int .i64 (q.1 : Int), .int .i64 (q.2.1 : Int), .string q.2.2]
        go_name_world W1 hW1
        rw [hW1] at B1 Q1
        clear hW1 k0 k1 k2
        have HB1 := Lib.hid B1
        have HQ1 := Lib.hid Q1
        have HP1 := Lib.hid (OP.out.keep B1)
        have hM1 : MapOf W1.drew lm .i64 (Mk.map entM) := HM.out.keep (B1.block lm HM.out.in_)
        obtain ⟨W5, hmu, hm5, hc5, hs5⟩ := hM1.insM AK.out q.1 q.2
        unfold shV at hmu
        have NS := Lib.hid (hM1.ne HQ1.out.drawn)
        rw [← EK.out] at hm5
        have M5 := Lib.hid hm5
        have C5 := Lib.hid (((HCH.out.call B1).drew).trans hc5 fun q _ e => e)
        have P5 := Lib.hid (hc5.own HP1.out.drawn (fun e => hpm (Eq.symm e)))
        have Q5 := Lib.hid (hc5.own HQ1.out.drawn (fun e => NS.out (Eq.symm e)))
        clear B1 Q1 hM1 hm5 hc5 hs5
        refine wp_region_seq (fun W => Own W p 131 #[.pointer (some ⟨d, 0, none⟩), .int .i64 (E.ll : Int), .int .u64 (E.seq : Int), .pointer (some ⟨lg, 0, none⟩), .map (some lm), .int .i64 (P.room : Int), .pointer (some ⟨pl, 0, none⟩), .bool E.failed] ∧ Own W wr.heap.size 112 #[.int .i64 (q.1 : Int), .int .i64 (q.2.1 : Int), .string q.2.2]) (0 :: 1 :: 2 :: 3 :: 4 :: 5 :: 6 :: []) (3 :: 5 :: 6 :: []) (0 :: 1 :: 2 :: 3 :: 4 :: 5 :: 6 :: 7 :: []) (by kernel_rfl) (by kernel_rfl) rfl (by kernel_rfl) rfl (⟨HP1.out.drawn, HQ1.out.drawn⟩) (by simp only [picked, List.filterMap_cons, List.filterMap_nil, List.getElem?_cons_zero, List.getElem?_cons_succ, Option.map_some]; exact rfl) ?_
        iterate 7
          refine seq_want (v := ?_) rfl rfl (fun W hS => ?_) ?_
          rotate_left
          · first
              | (conv => lhs; simp [go_sem]
                 first | done | exact rfl)
              | (have hS := hS rfl
                 obtain ⟨q1, q2⟩ := hS
                 obtain ⟨q1, q4, q5⟩ := Own.at_ q1
                 obtain ⟨q2, q6, q7⟩ := Own.at_ q2
                 conv => lhs; simp [go_sem, *]
                 first | done | exact rfl)
          simp only [Act.put, List.setIfInBounds_toArray, List.set_cons_zero, List.set_cons_succ]
        refine seq_on rfl rfl fun K hK => ?_
        go_wp2
        refine hK _ _ ⟨P5.out, Q5.out⟩ ?_
        clear hK K
        refine seq_end ?_
        go_wp2
        go_roundw
        case rel => exact ⟨k + 1, by omega, by go_num, M5.out, C5.out⟩
        case measure => simp [intOf]; omega
      · obtain rfl : k = n := by omega
        have e1 : P.T.take k = P.T := by rw [HN.out, List.take_length]
        rw [e1] at hm
        have K9 : Raw wr p lg lm d sb mb sc wv3 (.int .i64 (P.room : Int)) (.pointer (some ⟨pl, 0, none⟩)) P.done := by
          have e : P.done = { E with M := insAll E.M P.T, T := [] } := by rw [HEE.out]; rfl
          rw [e]
          exact ⟨K3.out.disk.keep hch fun q hq e => K3.out.nm (by rw [show q = lm from e] at hq; exact hq), hch.own (show Own w3 lg 207 (E.l.cells d) from K3.out.log) (fun e => K3.out.nlm (Eq.symm e)), hch.own O3.out (fun e => hpm (Eq.symm e)), hm, K3.out.ne⟩
        have PW := (HH2.out.pool_keep KC3.out.1).keep hch fun q hq e => by
          have h1 := hq.1
          have h2 := HH2.out.a3
          have h3 : q = lm := e
          omega
        have CL := Lib.hid (Po.clean_any PW)
        have CHG := Lib.hid ((HH2.out.ft KC3.out.1).trans (hch.mono (T := FT w3 B sb) fun q _ e => by
          have h3 : q = lm := e
          subst h3
          obtain ⟨es, ck, hb, _⟩ := K3.out.map
          exact ⟨HH2.out.b6, .inl ⟨es, ck, hb⟩⟩) fun q hq e => by
            by_cases c : FT w2 B sb q
            · exact c
            · exact e.congr ((HH2.out.ft KC3.out.1).block q hq c))
        have HK9 := Lib.hid K9
        obtain ⟨q1, q2, q3⟩ := K9.own.at_
        clear K9 PW hm hch e1
        go_wp2_with (go_at_call 84; refine CL.out.mono ?_; rintro e w6 ⟨rfl, hp6, hc6⟩)
        go_ret
        rw [EE.out, PP2.out]
        have KINo := KIN.out.1
        have hend := HH2.out.lift (HK9.out.keep hc6 fun q hq => HK9.out.not_pt HH2.out.a1 HH2.out.a2 HH2.out.a3 hq) (HH2.out.own_case KC3.out.2) hp6 (done_coh HOK.out KINo HH2.out.coh) (done_ok HOK.out KINo HQ.out) (show P.done.room = P.room from (ent_T P).2.2.2)
        exact ⟨rfl, ⟨sb, mb, sc, wv3, lg, lm, pl, _, hend⟩, fun S hS => by
          obtain rfl := (HSA.out _ HC2.out S hS).inj HH2.out.disk.sureB
          exact ⟨hend.disk.sureB, ft_trans (HC2.out.mono fun q _ hq => ft_pt hcz.2.1 hq) (ft_trans CHG.out (hc6.mono fun q _ hq => ft_pt hcz.2.1 hq))⟩⟩
  · have t3 : (e0 != 0) = true := by simpa using ce
    have PP2 := PP.out
    rw [if_neg ce] at PP2
    replace PP2 := Lib.hid PP2
    have hfin : PagerAt w3 B Bp d p (c + n) P.ent := ⟨sb, mb, sc, wv3, lg, lm, pl, R, HH2.out.lift k3 (HH2.out.own_case kv3) (HH2.out.pool_keep kc3) (KIN.out.1.coh HH2.out.coh) (KIN.out.1.ok HOK.out HQ.out) (ent_T P).2.2.2⟩
    have hchg : ∀ S, SureB w d S → SureB w3 d S ∧ Chg (FT w B S) w w3 := fun S hS => by
      obtain rfl := (HSA.out _ HC2.out S hS).inj HH2.out.disk.sureB
      exact ⟨k3.disk.sureB, ft_trans (HC2.out.mono fun q _ hq => ft_pt hcz.2.1 hq) (HH2.out.ft kc3)⟩
    have HF := Lib.hid (And.intro hfin hchg)
    clear k3 kc3 kv3 hfin hchg ce
    go_wp2
    go_ret
    rw [EE.out, PP2.out]
    exact ⟨rfl, HF.out⟩
end
end Go.Proofs.YtndhmidgnpobjaaGreatDoor
end
section
namespace Go.Proofs.YtndhmidgnpobjaaGreatDoor
open Go.ChangeShapes Go.WideShapes Go.ChangeAt Go.RowKit
set_option linter.unusedVariables false
set_option linter.unusedSimpArgs false

def PS.ck (P : PS) : PS := if P.failed = true ∨ P.T ≠ [] then P else PS.told P.empR.1 P.emp
section
variable {w w' : World} {B Bp d p c : Nat} {P : PS}
set_option maxRecDepth 10000 in
set_option maxHeartbeats 1000000 in
theorem check_live (h : PagerAt w B Bp d p c P) (hf : P.failed = false) (hT : P.T = []) (hd : P.s.down = false) (hlf : P.l.failed = false) (hq : P.seq + 1 ≤ 18446744073709551615) (hfew : P.s.wr.length ≤ 20000) :
    Calls Tryz.prog 24 #[.pointer (some ⟨p, 0, none⟩)] w fun e w' => e = .returned (.int .i64 P.empR.1) ∧ PagerAt w' B Bp d p c (PS.told P.empR.1 P.emp) ∧ ∀ S, SureB w d S → SureB w' d S ∧ Chg (FT w B S) w w' := by
  have HD := pdirty_any h
  rw [hT] at HD
  replace HD := Lib.hid (show Calls Tryz.prog 36 #[.pointer (some ⟨p, 0, none⟩)] w fun e w' => e = .returned (.int .i64 0) ∧ Below w.heap.size w w' from HD)
  obtain ⟨sb, mb, sc, wv, lg, lm, pl, R, H⟩ := h
  have hok := H.ok
  have hm := hok.most
  have ho : Own w p 131 #[.pointer (some ⟨d, 0, none⟩), .int .i64 (P.ll : Int), .int .u64 (P.seq : Int), .pointer (some ⟨lg, 0, none⟩), .map (some lm), .int .i64 (P.room : Int), .pointer (some ⟨pl, 0, none⟩), .bool P.failed] := H.own
  rw [hf] at ho
  have EMP := Lib.hid (fun W (hb : Below w.heap.size w W) => (show Calls Tryz.prog 87 #[.pointer (some ⟨p, 0, none⟩)] W fun e w' => e = .returned (.int .i64 P.empR.1) ∧ RawTo w w' p lg lm d sb mb sc wv (.int .i64 (P.room : Int)) (.pointer (some ⟨pl, 0, none⟩)) P.emp from by
    refine (remp_any (H.raw.below hb) hok.log hlf hok.M hm.2.1 (by have := hok.fit; have := hok.N; omega) (by omega) hq).mono ?_
    rintro e w' ⟨rfl, hr⟩
    exact ⟨rfl, hr.from_ hb⟩))
  have TLD := Lib.hid (fun W (hr : RawTo w W p lg lm d sb mb sc wv (.int .i64 (P.room : Int)) (.pointer (some ⟨pl, 0, none⟩)) P.emp) => (show Calls Tryz.prog 86 #[.pointer (some ⟨p, 0, none⟩), .int .i64 P.empR.1] W fun e w' => e = .returned (.int .i64 P.empR.1) ∧ RawTo w w' p lg lm d sb mb sc wv (.int .i64 (P.room : Int)) (.pointer (some ⟨pl, 0, none⟩)) (PS.told P.empR.1 P.emp) from by
    obtain ⟨wv', k1, k2, k3⟩ := hr
    refine (rtold_any k1 P.empR.1).mono ?_
    rintro e w' ⟨rfl, hr⟩
    exact ⟨rfl, RawTo.then_ k2 k3 hr⟩))
  obtain ⟨kin, kk, ksd, kes⟩ := PS.emp_kin hok (Sd.of H.disk.ok) hd hlf
  have hroom : (PS.told P.empR.1 P.emp).room = P.room := (kin.told _).room
  have HK := Lib.hid (And.intro (kin.told P.empR.1) hroom)
  have HH := Lib.hid H
  have HO := Lib.hid ho
  obtain ⟨E, hE⟩ : ∃ E, E = PS.told P.empR.1 P.emp := ⟨_, rfl⟩
  rw [← hE] at TLD HK ⊢
  obtain ⟨Q, hQ⟩ : ∃ Q, Q = P.emp := ⟨_, rfl⟩
  rw [← hQ] at TLD EMP
  obtain ⟨e0, he0⟩ : ∃ e0, e0 = P.empR.1 := ⟨_, rfl⟩
  rw [← he0] at TLD EMP ⊢
  have HQ := Lib.hid hq
  obtain ⟨q1, q2, q3⟩ := ho.at_
  clear H ho hf hT hd hlf kin kk ksd kes hroom hE hQ he0 hok hq
  go_enter Tryz.func24, Tryz.ntmps24
  go_wp2_with (first
    | (go_at_call 36; refine HD.out.mono ?_; rintro e w2 ⟨rfl, hb2⟩; have B2 := Lib.hid hb2; clear hb2)
    | (go_at_call 87; refine (EMP.out _ B2.out).mono ?_; rintro e w3 ⟨rfl, hr3⟩; have R3 := Lib.hid hr3; clear hr3)
    | (go_at_call 86; refine (TLD.out _ R3.out).mono ?_; rintro e w4 ⟨rfl, hr4⟩))
  go_ret
  obtain ⟨wv4, k4, kc4, kv4⟩ := hr4
  exact ⟨rfl, ⟨sb, mb, sc, wv4, lg, lm, pl, R, HH.out.lift k4 (HH.out.own_case kv4) (HH.out.pool_keep kc4) (HK.out.1.coh HH.out.coh) (HK.out.1.ok HH.out.ok HQ.out) HK.out.2⟩, fun S hS => by
    obtain rfl := hS.inj HH.out.disk.sureB
    exact ⟨k4.disk.sureB, HH.out.ft kc4⟩⟩
end
end Go.Proofs.YtndhmidgnpobjaaGreatDoor
end
