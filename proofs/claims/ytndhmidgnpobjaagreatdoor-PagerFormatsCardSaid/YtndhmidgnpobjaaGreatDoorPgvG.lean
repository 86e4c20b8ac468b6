/- Merged2: The contract of the laws' Told: all that a pager tells. Conditions: a disk that isn't down, pages that all can be read. merged: The contract of the reference's Same. Conditions: states that stand in memory. Contracts for the law PagerFormats: Load with where it lies, a disk's length, what a formatted disk's pager tells. Conditions: those that each theorem names. -/
import Derived.Test.YtndhmidgnpobjaaGreatDoorPgvE
import Derived.Test.YtndhmidgnpobjaaGreatDoorPgtH
import Derived.BigQuiet
import Derived.Test.YtndhmidgnpobjaaGreatDoorPgtK
section
namespace Go.Proofs.YtndhmidgnpobjaaGreatDoor
open Go.ChangeShapes Go.WideShapes Go.ChangeAt Go.RowKit
set_option linter.unusedVariables false
set_option linter.unusedSimpArgs false

/-- the first pages' kinds and rooms -/
def PS.kindL (P : PS) (n : Nat) : List Nat := (List.range n).map fun i => (P.view i).1.1
def PS.roomL (P : PS) (n : Nat) : List ByteArray := (List.range n).map fun i => (P.view i).1.2
theorem kindL_succ (P : PS) (n : Nat) : P.kindL (n + 1) = P.kindL n ++ [(P.view n).1.1] := by simp [PS.kindL, List.range_succ]
theorem roomL_succ (P : PS) (n : Nat) : P.roomL (n + 1) = P.roomL n ++ [(P.view n).1.2] := by simp [PS.roomL, List.range_succ]
theorem kindL_len (P : PS) (n : Nat) : (natV (P.kindL n)).length = n := by simp [PS.kindL, natV]
theorem roomL_len (P : PS) (n : Nat) : (strV (P.roomL n)).length = n := by simp [PS.roomL, strV]
section
variable {w w' : World} {B B0 Bp d p c : Nat} {P : PS}
theorem PagerAt.keepS (h : PagerAt w B Bp d p c P) {S : Nat → Prop} (hc : Chg S w w') (hS : ∀ q, S q → ∃ T cs, Own w q T cs ∧ PgT T ∧ ∀ x, cs[0]? ≠ some (.int .u8 x)) : PagerAt w' B Bp d p c P := by
  obtain ⟨sb, mb, sc, wv, lg, lm, pl, R, h⟩ := h
  refine ⟨sb, mb, sc, wv, lg, lm, pl, R, h.keep hc fun q hq e => ?_⟩
  obtain ⟨T, cs, ho, hT, h0⟩ := hS q e
  exact h.own_apart ho hT h0 hq
/-- a row's block is none of a pager's -/
theorem row_pg {T : TypeId} {v : Value} {l : List Value} {n : Nat} (h : w.ownsRow B T 1 v n l) (hT : PgT T) (h0 : ∀ x, l[0]? ≠ some (.int .u8 x)) (hn : v.ownBlock ≠ none → 0 < l.length) : ∀ q, v.ownBlock = some q → ∃ T' cs, Own w q T' cs ∧ PgT T' ∧ ∀ x, cs[0]? ≠ some (.int .u8 x) := fun q hq => by
  obtain ⟨-, cur, hb⟩ := row_block h hq
  refine ⟨T, cur, hb, hT, fun x hx => ?_⟩
  have hl := hn (by rw [hq]; simp)
  obtain ⟨a, cp, -, -, hk⟩ := row_slice h
  obtain ⟨g, -, hg, hc, -⟩ := hk 0 hl
  obtain rfl : g = q := by rw [hq] at hg; injection hg with hg; exact hg.symm
  have h1 := (show Own w g T cur from hb).at_.1 0
  rw [hc, hx] at h1
  exact h0 x (by rw [List.getElem?_eq_getElem hl]; exact h1)
/-- the pool's calls leave rows of other types -/
theorem row_ask {T : TypeId} {v : Value} {l : List Value} {n B1 : Nat} (h : w.ownsRow B1 T 1 v n l) (hc : Chg (Po.PT w Bp) w w') (h1 : T ≠ 216) (h2 : T ≠ 229) : w'.ownsRow B1 T 1 v n l := Po.ownsRow_keepB h fun g hg => by
  obtain ⟨-, cur, hb⟩ := row_block h hg
  exact hc.block g (h.lt g hg).2 fun k => by
    rcases k.2 with ⟨es, ck, e⟩ | ⟨cs', e⟩ | ⟨cs', e⟩
    · rw [hb] at e; cases e
    · unfold Own at e; rw [hb] at e; injection e with e; injection e with e1 e2; exact h1 e2
    · unfold Own at e; rw [hb] at e; injection e with e; injection e with e1 e2; exact h2 e2
theorem stC_put (vk vr vf : Value) (r : Nat → Nat) (x : Nat) {k : Nat} (h : k < 8) : (stC vk vr vf r).setIfInBounds (3 + k) (.int .u64 (x : Int)) = stC vk vr vf (fun i => if i = k then x else r i) := by
  rcases upto8 h with rfl | rfl | rfl | rfl | rfl | rfl | rfl | rfl <;> rfl
/-- what Told has gathered -/
structure Tel (w : World) (b0 Bp n m : Nat) (vk vr : Value) (r : Nat → Nat) (P : PS) (wr : World) : Prop where
  o2 : Own wr b0 38 #[.slice none 0 0, .slice none 0 0, .slice none 0 0, .int .u64 0, .int .u64 0, .int .u64 0, .int .u64 0, .int .u64 0, .int .u64 0, .int .u64 0, .int .u64 0]
  o4 : Own wr (b0 + 1) 38 (stC vk vr (.slice none 0 0) r)
  k : wr.ownsRow b0 3 1 vk n (natV (P.kindL n))
  r : wr.ownsRow b0 9 1 vr m (strV (P.roomL m))
  c : Chg (Po.PT w Bp) w wr
theorem Tel.ask {b0 n m : Nat} {vk vr : Value} {r : Nat → Nat} {wr : World} (h : Tel w b0 Bp n m vk vr r P wr) (hc : Chg (Po.PT wr Bp) wr w') : Tel w b0 Bp n m vk vr r P w' :=
  ⟨pt_own hc h.o2 (by decide) (by decide), pt_own hc h.o4 (by decide) (by decide), row_ask h.k hc (by decide) (by decide), row_ask h.r hc (by decide) (by decide), pt_trans h.c hc⟩
theorem kind_u8 (P : PS) (n : Nat) (x : Int) : (natV (P.kindL n))[0]? ≠ some (.int .u8 x) := by
  cases n with
  | zero => simp [PS.kindL, natV]
  | succ n => simp [PS.kindL, natV, List.range_succ_eq_map]
theorem room_u8 (P : PS) (n : Nat) (x : Int) : (strV (P.roomL n))[0]? ≠ some (.int .u8 x) := by
  cases n with
  | zero => simp [PS.roomL, strV]
  | succ n => simp [PS.roomL, strV, List.range_succ_eq_map]
theorem row_pos {T : TypeId} {v : Value} {l : List Value} {n B1 : Nat} (h : w.ownsRow B1 T 1 v n l) (hn : n = 0 → v = .slice none 0 0) : v.ownBlock ≠ none → 0 < l.length := fun hv => by
  have h1 := h.1
  by_cases c : n = 0
  · rw [hn c] at hv; exact absurd rfl hv
  · omega
theorem Tel.pushK {b0 n m : Nat} {vk vr v1 : Value} {r : Nat → Nat} {wr y1 : World} {o : Obj} (h : Tel w b0 Bp n m vk vr r P wr) (hb : b0 = w.heap.size) (hp : PagerAt wr B Bp d p c P) (hn : n = 0 → vk = .slice none 0 0) (hown : y1.ownsRow b0 3 1 v1 (n + 1) (natV (P.kindL (n + 1)))) (hgr : (wr.alloc o).grownBy y1 vk.ownBlock) :
    Own y1 (b0 + 1) 38 (stC vk vr (.slice none 0 0) r) ∧ Tel w b0 Bp (n + 1) m v1 vr r P (y1.setCell ⟨b0 + 1, 0, none⟩ v1) ∧ PagerAt (y1.setCell ⟨b0 + 1, 0, none⟩ v1) B Bp d p c P := by
  have C1 : Chg (fun q => vk.ownBlock = some q) wr y1 := ((Chg.refl _ wr).alloc _).grown hgr fun q e => .inl e
  have P1 := hp.keepS C1 (row_pg h.k (by unfold PgT; decide) (kind_u8 P n) (row_pos h.k hn))
  have o4 := C1.own h.o4 (row_own h.k h.o4 (by decide))
  have o2 := C1.own h.o2 (row_own h.k h.o2 (by decide))
  have r1 := Po.ownsRow_keepB h.r fun g hg => C1.block g (h.r.lt g hg).2 fun e => row_type h.k h.r (by decide) g e hg
  have c1 : Chg (Po.PT w Bp) w y1 := h.c.trans C1 fun q hq e => by have := (h.k.lt q e).1; omega
  have k1 := ownsRow_setCell_other (a := ⟨b0 + 1, 0, none⟩) hown (row_own hown o4 (by decide)) v1
  have k2 := ownsRow_setCell_other (a := ⟨b0 + 1, 0, none⟩) r1 (row_own r1 o4 (by decide)) v1
  refine ⟨o4, ⟨o2.apart (by omega) 0 v1, (o4.put 0 v1).as rfl, k1, k2, c1.trans (chg_one y1 (b0 + 1) 0 v1) fun q hq e => by have e : q = b0 + 1 := e; omega⟩, P1.keepS (chg_one y1 (b0 + 1) 0 v1) fun q e => ?_⟩
  have e : q = b0 + 1 := e
  subst e
  refine ⟨_, _, o4, by unfold PgT; decide, fun x hx => ?_⟩
  obtain ⟨a, cp, e1, -, -⟩ := row_slice h.k
  rw [e1] at hx
  cases hx
theorem Tel.pushR {b0 n m : Nat} {vk vr v1 : Value} {r : Nat → Nat} {wr y1 : World} {o : Obj} (h : Tel w b0 Bp n m vk vr r P wr) (hb : b0 = w.heap.size) (hp : PagerAt wr B Bp d p c P) (hn : m = 0 → vr = .slice none 0 0) (hown : y1.ownsRow b0 9 1 v1 (m + 1) (strV (P.roomL (m + 1)))) (hgr : (wr.alloc o).grownBy y1 vr.ownBlock) :
    Own y1 (b0 + 1) 38 (stC vk vr (.slice none 0 0) r) ∧ Tel w b0 Bp n (m + 1) vk v1 r P (y1.setCell ⟨b0 + 1, 1, none⟩ v1) ∧ PagerAt (y1.setCell ⟨b0 + 1, 1, none⟩ v1) B Bp d p c P := by
  have C1 : Chg (fun q => vr.ownBlock = some q) wr y1 := ((Chg.refl _ wr).alloc _).grown hgr fun q e => .inl e
  have P1 := hp.keepS C1 (row_pg h.r (by unfold PgT; decide) (room_u8 P m) (row_pos h.r hn))
  have o4 := C1.own h.o4 (row_own h.r h.o4 (by decide))
  have o2 := C1.own h.o2 (row_own h.r h.o2 (by decide))
  have r1 := Po.ownsRow_keepB h.k fun g hg => C1.block g (h.k.lt g hg).2 fun e => row_type h.r h.k (by decide) g e hg
  have c1 : Chg (Po.PT w Bp) w y1 := h.c.trans C1 fun q hq e => by have := (h.r.lt q e).1; omega
  have k1 := ownsRow_setCell_other (a := ⟨b0 + 1, 1, none⟩) hown (row_own hown o4 (by decide)) v1
  have k2 := ownsRow_setCell_other (a := ⟨b0 + 1, 1, none⟩) r1 (row_own r1 o4 (by decide)) v1
  refine ⟨o4, ⟨o2.apart (by omega) 1 v1, (o4.put 1 v1).as rfl, k2, k1, c1.trans (chg_one y1 (b0 + 1) 1 v1) fun q hq e => by have e : q = b0 + 1 := e; omega⟩, P1.keepS (chg_one y1 (b0 + 1) 1 v1) fun q e => ?_⟩
  have e : q = b0 + 1 := e
  subst e
  refine ⟨_, _, o4, by unfold PgT; decide, fun x hx => ?_⟩
  obtain ⟨a, cp, e1, -, -⟩ := row_slice h.k
  rw [e1] at hx
  cases hx
set_option maxRecDepth 10000 in
set_option maxHeartbeats 4000000 in
theorem told_ok (h : PagerAt w B Bp d p c P) (hd : P.s.down = false) (hv : ∀ i, i < P.used → (P.view i).2 = 0) (dd : Nat) (hdd : 6 * P.used + 20 ≤ dd) (hc : c + dd < 1000000) : Calls Tryz.prog 16 #[.pointer (some ⟨p, 0, none⟩)] w fun e w' => (∃ vk vr, e = .returned (.tuple #[.agg (stC vk vr (.slice none 0 0) P.root), .bool true]) ∧ StAt w' w.heap.size vk vr (.slice none 0 0) ⟨P.kindL P.used, P.roomL P.used, [], P.root⟩) ∧ PagerAt w' B Bp d p (c + dd) P ∧ Chg (Po.PT w Bp) w w' := by
  obtain ⟨i0, hi0, hz0, hz1, hz2⟩ := info_parts Po.info_in
  obtain ⟨i1, hi1, hy0, hy1, hy2⟩ := info_parts Pg.info_str
  have hbs := h.base
  have hmo := h.ok.most
  have hus := h.ok.used
  obtain ⟨n, hn⟩ : ∃ n, n = P.used := ⟨_, rfl⟩
  rw [← hn] at hv hus hdd ⊢
  obtain ⟨rt, hrt⟩ : ∃ rt, rt = P.root := ⟨_, rfl⟩
  rw [← hrt]
  have PG := Lib.hid (fun W c (hc : c + 2 < 1000000) (hp : PagerAt W B Bp d p c P) => (show Calls Tryz.prog 37 #[.pointer (some ⟨p, 0, none⟩)] W fun e w' => e = .returned (.int .i64 (n : Int)) ∧ Ask W w' B Bp d p (c + 2) P from by rw [hn]; exact pages_up hp hd hc))
  have RD := Lib.hid (fun W c k (hk : k < n) (hc : c + 4 < 1000000) (hp : PagerAt W B Bp d p c P) => (show Calls Tryz.prog 39 #[.pointer (some ⟨p, 0, none⟩), .int .i64 (k : Int)] W fun e w' => e = .returned (.tuple #[.int .i64 ((P.view k).1.1 : Int), .string (P.view k).1.2, .int .i64 0]) ∧ Ask W w' B Bp d p (c + 4) P from by
    have := read_in hp hd k (by omega) hc
    unfold rdV at this
    rw [hv k hk, if_pos rfl, if_pos rfl] at this
    exact this))
  have RT := Lib.hid (fun W c (j : Nat) (hj : j < 8) (hc : c + 2 < 1000000) (hp : PagerAt W B Bp d p c P) => (show Calls Tryz.prog 56 #[.pointer (some ⟨p, 0, none⟩), .int .i64 (j : Int)] W fun e w' => e = .returned (.tuple #[.int .u64 (rt j : Int), .int .i64 0]) ∧ Ask W w' B Bp d p (c + 2) P from by rw [hrt]; exact root_in hp hd j hj hc))
  have B2 : Below w.heap.size w ((w.alloc (.cells #[.slice none 0 0, .slice none 0 0, .slice none 0 0, .int .u64 0, .int .u64 0, .int .u64 0, .int .u64 0, .int .u64 0, .int .u64 0, .int .u64 0, .int .u64 0] 38)).alloc (.cells #[.slice none 0 0, .slice none 0 0, .slice none 0 0, .int .u64 0, .int .u64 0, .int .u64 0, .int .u64 0, .int .u64 0, .int .u64 0, .int .u64 0, .int .u64 0] 38)) := (box_one _ _ _).alloc (by simp) _
  have O1 : Own ((w.alloc (.cells #[.slice none 0 0, .slice none 0 0, .slice none 0 0, .int .u64 0, .int .u64 0, .int .u64 0, .int .u64 0, .int .u64 0, .int .u64 0, .int .u64 0, .int .u64 0] 38)).alloc (.cells #[.slice none 0 0, .slice none 0 0, .slice none 0 0, .int .u64 0, .int .u64 0, .int .u64 0, .int .u64 0, .int .u64 0, .int .u64 0, .int .u64 0, .int .u64 0] 38)) w.heap.size 38 #[.slice none 0 0, .slice none 0 0, .slice none 0 0, .int .u64 0, .int .u64 0, .int .u64 0, .int .u64 0, .int .u64 0, .int .u64 0, .int .u64 0, .int .u64 0] := (Own.made w _ _).more _
  have O2 : Own ((w.alloc (.cells #[.slice none 0 0, .slice none 0 0, .slice none 0 0, .int .u64 0, .int .u64 0, .int .u64 0, .int .u64 0, .int .u64 0, .int .u64 0, .int .u64 0, .int .u64 0] 38)).alloc (.cells #[.slice none 0 0, .slice none 0 0, .slice none 0 0, .int .u64 0, .int .u64 0, .int .u64 0, .int .u64 0, .int .u64 0, .int .u64 0, .int .u64 0, .int .u64 0] 38)) (w.heap.size + 1) 38 #[.slice none 0 0, .slice none 0 0, .slice none 0 0, .int .u64 0, .int .u64 0, .int .u64 0, .int .u64 0, .int .u64 0, .int .u64 0, .int .u64 0, .int .u64 0] := Own.made_at (by simp)
  have H0 := Lib.hid h
  clear h hd hn hrt
  go_enter Tryz.func16, Tryz.ntmps16
  go_upto_region 2 with fail
  go_name_world W0 hW0
  rw [hW0] at B2 O1 O2
  clear hW0
  have HP0 := Lib.hid (H0.out.below B2)
  have HT0 : Hid (Tel w w.heap.size Bp 0 0 (.slice none 0 0) (.slice none 0 0) (fun _ => 0) P W0) := Lib.hid ⟨O1, O2, World.ownsRow_nil _ _ _ _, World.ownsRow_nil _ _ _ _, Chg.of B2⟩
  clear B2 O1 O2 H0
  go_upto_region 3 with fail
  go_loopw [5] (fun i wr => ∃ (k c' : Nat) (vk vr : Value), k ≤ n ∧ i = .int .i64 (k : Int) ∧ c' ≤ c + 6 * k ∧ PagerAt wr B Bp d p c' P ∧ Tel w w.heap.size Bp k k vk vr (fun _ => 0) P wr ∧ (k = 0 → vk = .slice none 0 0 ∧ vr = .slice none 0 0)) (fun i wr => n - (intOf i).toNat)
  case atStart => exact ⟨0, c, _, _, Nat.zero_le _, rfl, by omega, HP0.out, HT0.out, fun _ => ⟨rfl, rfl⟩⟩
  case round =>
    obtain ⟨k, c', vk, vr, hk, rfl, hc', hp, hT, hnil⟩ := hrel
    have HP := Lib.hid hp
    have HT := Lib.hid hT
    have HNI := Lib.hid hnil
    clear hp hT hnil
    by_cases hlt : k < n
    · have t1 : decide (k < n) = true := by simpa using hlt
      obtain ⟨K, hK⟩ : ∃ K, K = (P.view k).1.1 := ⟨_, rfl⟩
      obtain ⟨S, hS⟩ : ∃ S, S = (P.view k).1.2 := ⟨_, rfl⟩
      have RDK := RD.out
      have RK := fun W c => RDK W c k hlt
      rw [← hK, ← hS] at RK
      replace RK := Lib.hid RK
      have EK := Lib.hid (show natV (P.kindL (k + 1)) = natV (P.kindL k) ++ [.int .i64 (K : Int)] by rw [kindL_succ, hK]; simp [natV])
      have ES := Lib.hid (show strV (P.roomL (k + 1)) = strV (P.roomL k) ++ [.string S] by rw [roomL_succ, hS]; simp [strV])
      clear hK hS RDK
      go_upto_region 8 with (first
        | (go_at_call 37; refine (PG.out _ _ (by omega) HP.out).mono ?_; rintro e w1 ⟨rfl, hA1⟩; have P1 := Lib.hid hA1.1; have T1 := Lib.hid (HT.out.ask hA1.2); clear hA1)
        | (go_at_call 39; refine (RK.out _ _ (by omega) P1.out).mono ?_; rintro e w2 ⟨rfl, hA2⟩; have P2 := Lib.hid hA2.1; have T2 := Lib.hid (T1.out.ask hA2.2); clear hA2))
      obtain ⟨ka, kc, hvk, -, -⟩ := row_slice T2.out.k
      obtain ⟨ra, rc, hvr, -, -⟩ := row_slice T2.out.r
      subst hvk
      subst hvr
      have kl := kindL_len P k
      have rl := roomL_len P k
      have q1 := T2.out.o4
      unfold stC at q1
      obtain ⟨q1, q2, q3⟩ := q1.at_
      go_upto_region 9 with (at_builtin; refine wpList_append_own_at _ rfl _ _ 33 rfl w.heap.size 3 i0 (.int .i64 0) 1 8 Tryz.underlying33 hi0 hz0 hz1 hz2 rfl (by decide) (.slice ka k kc) k (natV (P.kindL k)) rfl (T2.out.k.alloc _) ⟨w2.heap.size, 0, none⟩ 1 1 [.int .i64 (K : Int)] rfl rfl (fun j u hu => Po.one_cell _ _ _ _ hu) (by intro u hu; simp at hu; subst hu; rfl) (by unfold maxLen; omega) (by omega) (by have := T2.out.c.size; simp; omega) ?_; intro v1 y1 hown hgr _ _; rw [← EK.out] at hown; obtain ⟨a1, c1, rfl, -, -⟩ := row_slice hown; have X3 := Lib.hid (T2.out.pushK rfl P2.out (fun e => (HNI.out e).1) hown hgr); clear hown hgr q1 q2 q3; have q1 := X3.out.1; unfold stC at q1; obtain ⟨q1, q2, q3⟩ := q1.at_)
      have T3 := X3.out.2.1
      have P3 := X3.out.2.2
      go_name_world W3 hW3
      rw [hW3] at T3 P3
      clear hW3 X3 q1 q2 q3
      replace T3 := Lib.hid T3
      replace P3 := Lib.hid P3
      have q1 := T3.out.o4
      unfold stC at q1
      obtain ⟨q1, q2, q3⟩ := q1.at_
      go_upto_region 4 with (at_builtin; refine wpList_append_own_at _ rfl _ _ 34 rfl w.heap.size 9 i1 (.string ⟨#[]⟩) 1 16 Tryz.underlying34 hi1 hy0 hy1 hy2 rfl (by decide) (.slice ra k rc) k (strV (P.roomL k)) rfl (T3.out.r.alloc _) ⟨W3.heap.size, 0, none⟩ 1 1 [.string S] rfl rfl (fun j u hu => Po.one_cell _ _ _ _ hu) (by intro u hu; simp at hu; subst hu; rfl) (by unfold maxLen; omega) (by omega) (by have := T3.out.c.size; simp; omega) ?_; intro v1 y2 hown hgr _ _; rw [← ES.out] at hown; obtain ⟨a2, c2, rfl, -, -⟩ := row_slice hown; have X4 := Lib.hid (T3.out.pushR rfl P3.out (fun e => (HNI.out e).2) hown hgr); clear hown hgr q1 q2 q3; have q1 := X4.out.1; unfold stC at q1; obtain ⟨q1, q2, q3⟩ := q1.at_)
      have T4 := X4.out.2.1
      have P4 := X4.out.2.2
      go_name_world W4 hW4
      rw [hW4] at T4 P4
      clear hW4 X4 q1 q2 q3
      replace T4 := Lib.hid T4
      replace P4 := Lib.hid P4
      go_wp2
      go_roundw
      case rel => exact ⟨k + 1, _, _, _, by omega, by go_num, by omega, P4.out, T4.out, fun e => by omega⟩
      case measure => simp [intOf]; omega
    · obtain rfl : k = n := by omega
      have t1 : decide (k < k) = false := by simp
      go_upto_region 11 with (go_at_call 37; refine (PG.out _ _ (by omega) HP.out).mono ?_; rintro e w1 ⟨rfl, hA1⟩; have P1 := Lib.hid hA1.1; have T1 := Lib.hid (HT.out.ask hA1.2); clear hA1)
      obtain ⟨ka, kc, hvk, -, -⟩ := row_slice T1.out.k
      obtain ⟨ra, rc, hvr, -, -⟩ := row_slice T1.out.r
      subst hvk
      subst hvr
      obtain ⟨VK, hVK⟩ : ∃ VK : Value, VK = .slice ka k kc := ⟨_, rfl⟩
      obtain ⟨VR, hVR⟩ : ∃ VR : Value, VR = .slice ra k rc := ⟨_, rfl⟩
      have HVK := Lib.hid hVK
      have HVR := Lib.hid hVR
      rw [← hVK, ← hVR] at T1
      clear hVK hVR HT HP HNI
      go_loopw [9] (fun i wr1 => ∃ (j c1 : Nat), j ≤ 8 ∧ i = .int .i64 (j : Int) ∧ c1 ≤ c' + 2 + 2 * j ∧ PagerAt wr1 B Bp d p c1 P ∧ Tel w w.heap.size Bp k k VK VR (fun i => if i < j then rt i else 0) P wr1) (fun i wr1 => 8 - (intOf i).toNat)
      case atStart => exact ⟨0, _, by omega, rfl, by omega, P1.out, by simpa using T1.out⟩
      case round =>
        obtain ⟨j, c1, hj, rfl, hc1, hp, hT⟩ := hrel
        have HP := Lib.hid hp
        have HT := Lib.hid hT
        clear hp hT P1 T1
        by_cases hj8 : j < 8
        · have HJ := Lib.hid hj8
          have t8 : decide ((j : Int) < 8) = true := by simp; omega
          have i7 : ¬ 7 < (j : Int) := by omega
          go_upto_region 16 with (go_at_call 56; refine (RT.out _ _ j HJ.out (by omega) HP.out).mono ?_; rintro e w5 ⟨rfl, hA5⟩; have P5 := Lib.hid hA5.1; have T5 := Lib.hid (HT.out.ask hA5.2); clear hA5)
          have ho := T5.out.o4
          have hx0 : w5.cell? ⟨w.heap.size + 1, 3 + j, none⟩ = some (.int .u64 ((if j < j then rt j else 0 : Nat) : Int)) := by rw [ho.at_.1, stC_at _ _ _ _ hj8]
          have hf0 := ho.at_.2.1 (3 + j)
          have T6 : Tel w w.heap.size Bp k k VK VR (fun i => if i < j + 1 then rt i else 0) P (w5.setCell ⟨w.heap.size + 1, 3 + j, none⟩ (.int .u64 (rt j : Int))) := by
            have e : (fun i => if i = j then rt j else (if i < j then rt i else 0)) = fun i => if i < j + 1 then rt i else 0 := by
              funext i
              by_cases c1 : i = j
              · subst c1; rw [if_pos rfl, if_pos (by omega)]
              · rw [if_neg c1]
                by_cases c2 : i < j
                · rw [if_pos c2, if_pos (by omega)]
                · rw [if_neg c2, if_neg (by omega)]
            refine ⟨T5.out.o2.apart (by omega) _ _, (ho.put (3 + j) (.int .u64 (rt j : Int))).as (by rw [stC_put _ _ _ _ _ hj8, e]), ownsRow_setCell_other (a := ⟨w.heap.size + 1, 3 + j, none⟩) T5.out.k (row_own T5.out.k ho (by decide)) _, ownsRow_setCell_other (a := ⟨w.heap.size + 1, 3 + j, none⟩) T5.out.r (row_own T5.out.r ho (by decide)) _, T5.out.c.trans (chg_one w5 (w.heap.size + 1) (3 + j) _) fun q hq e => by have e : q = w.heap.size + 1 := e; omega⟩
          have P6 : PagerAt (w5.setCell ⟨w.heap.size + 1, 3 + j, none⟩ (.int .u64 (rt j : Int))) B Bp d p (c1 + 2) P := P5.out.keepS (chg_one w5 (w.heap.size + 1) (3 + j) _) fun q e => by
            have e : q = w.heap.size + 1 := e
            subst e
            refine ⟨_, _, ho, by unfold PgT; decide, fun x hx => ?_⟩
            have hx : some VK = some (.int .u8 x) := hx
            rw [HVK.out] at hx
            cases hx
          replace T6 := Lib.hid T6
          replace P6 := Lib.hid P6
          clear ho
          go_upto_region 12 with fail
          go_name_world W6 hW6
          rw [hW6] at T6 P6
          clear hW6 hx0 hf0
          go_wp2
          go_roundw
          case rel => exact ⟨j + 1, _, by omega, by go_num, by omega, P6.out, T6.out⟩
          case measure => simp [intOf]; omega
        · obtain rfl : j = 8 := by omega
          have hT := HT.out
          rw [HVK.out, HVR.out] at hT
          have o4 : Own wr (w.heap.size + 1) 38 (stC (.slice ka k kc) (.slice ra k rc) (.slice none 0 0) rt) := (show stC (.slice ka k kc) (.slice ra k rc) (.slice none 0 0) (fun i => if i < 8 then rt i else 0) = stC (.slice ka k kc) (.slice ra k rc) (.slice none 0 0) rt from by unfold stC; rfl) ▸ hT.o4
          have o2 := hT.o2
          have HO2 := Lib.hid o2
          have HTT := Lib.hid hT
          unfold stC at o4
          obtain ⟨q1, q2, q3⟩ := o2.at_
          obtain ⟨p1, p2, p3⟩ := o4.at_
          clear o4 o2 hT HT
          go_wp2
          refine bodyPost_ret (by simp [results, Tryz.results16, go_sem, stC, *]) rfl ⟨⟨.slice ka k kc, .slice ra k rc, rfl, ?_⟩, ?_, ?_⟩
          · have kl : (P.kindL k).length = k := by simp [PS.kindL]
            have rl : (P.roomL k).length = k := by simp [PS.roomL]
            have x1 := row_cells (row_own HTT.out.k HO2.out (by decide)) [.slice ka k kc, .slice ra k rc, .slice none 0 0, .int .u64 (rt 0 : Int), .int .u64 (rt 1 : Int), .int .u64 (rt 2 : Int), .int .u64 (rt 3 : Int), .int .u64 (rt 4 : Int), .int .u64 (rt 5 : Int), .int .u64 (rt 6 : Int), .int .u64 (rt 7 : Int)] 0 _ HTT.out.k
            have x2 := row_cells (row_own HTT.out.r HO2.out (by decide)) [.slice ka k kc, .slice ra k rc, .slice none 0 0, .int .u64 (rt 0 : Int), .int .u64 (rt 1 : Int), .int .u64 (rt 2 : Int), .int .u64 (rt 3 : Int), .int .u64 (rt 4 : Int), .int .u64 (rt 5 : Int), .int .u64 (rt 6 : Int), .int .u64 (rt 7 : Int)] 0 _ HTT.out.r
            exact ⟨by show World.ownsRow _ _ _ 1 _ (P.kindL k).length _; rw [kl]; exact x1, by show World.ownsRow _ _ _ 1 _ (P.roomL k).length _; rw [rl]; exact x2, World.ownsRow_nil _ _ _ _, fun g _ e => by cases e⟩
          · exact (HP.out.keepS (chg_setCells (S := (· = w.heap.size)) (.inl rfl) [.slice ka k kc, .slice ra k rc, .slice none 0 0, .int .u64 (rt 0 : Int), .int .u64 (rt 1 : Int), .int .u64 (rt 2 : Int), .int .u64 (rt 3 : Int), .int .u64 (rt 4 : Int), .int .u64 (rt 5 : Int), .int .u64 (rt 6 : Int), .int .u64 (rt 7 : Int)] wr 0 (Chg.refl _ _)) fun q e => by
              have e : q = w.heap.size := e
              subst e
              exact ⟨_, _, HO2.out, by unfold PgT; decide, fun x hx => by cases hx⟩).more (by omega)
          · exact HTT.out.c.trans (chg_setCells (S := (· = w.heap.size)) (.inl rfl) [.slice ka k kc, .slice ra k rc, .slice none 0 0, .int .u64 (rt 0 : Int), .int .u64 (rt 1 : Int), .int .u64 (rt 2 : Int), .int .u64 (rt 3 : Int), .int .u64 (rt 4 : Int), .int .u64 (rt 5 : Int), .int .u64 (rt 6 : Int), .int .u64 (rt 7 : Int)] wr 0 (Chg.refl _ _)) fun q hq e => by
              have e : q = w.heap.size := e
              omega
end
end Go.Proofs.YtndhmidgnpobjaaGreatDoor
end
section
namespace Go.Proofs.YtndhmidgnpobjaaGreatDoor
open Go.ChangeShapes Go.WideShapes Go.ChangeAt Go.RowKit
set_option linter.unusedVariables false
set_option linter.unusedSimpArgs false

theorem eq_arr8 (x0 x1 x2 x3 x4 x5 x6 x7 : Int) (y0 y1 y2 y3 y4 y5 y6 y7 : Int) (w : World) : (Op.equalIn 10000 36 (.agg #[.int .u64 x0, .int .u64 x1, .int .u64 x2, .int .u64 x3, .int .u64 x4, .int .u64 x5, .int .u64 x6, .int .u64 x7]) (.agg #[.int .u64 y0, .int .u64 y1, .int .u64 y2, .int .u64 y3, .int .u64 y4, .int .u64 y5, .int .u64 y6, .int .u64 y7])).run Tryz.prog w = .ok (decide (x0 = y0 ∧ x1 = y1 ∧ x2 = y2 ∧ x3 = y3 ∧ x4 = y4 ∧ x5 = y5 ∧ x6 = y6 ∧ x7 = y7)) w := by
  have u3 := Tryz.underlying35
  have a3 := Tryz.isAgg35
  have z3 := Tryz.sizeOf35
  rw [show (10000 : Nat) = 9999 + 1 from rfl, Op.equalIn]
  simp only [Sem.run_bind, run_underlying Tryz.underlying36, Result.andThen_ok]
  simp only [Std.Legacy.Range.forIn_eq_forIn_range', Std.Legacy.Range.size, Nat.sub_zero, Nat.add_sub_cancel, Nat.div_one, List.range'_succ, List.range'_zero, List.forIn_cons, List.forIn_nil]
  go_simp
  by_cases h0 : x0 = y0
  case neg => simp [h0]
  by_cases h1 : x1 = y1
  case neg => simp [h0, h1]
  by_cases h2 : x2 = y2
  case neg => simp [h0, h1, h2]
  by_cases h3 : x3 = y3
  case neg => simp [h0, h1, h2, h3]
  by_cases h4 : x4 = y4
  case neg => simp [h0, h1, h2, h3, h4]
  by_cases h5 : x5 = y5
  case neg => simp [h0, h1, h2, h3, h4, h5]
  by_cases h6 : x6 = y6
  case neg => simp [h0, h1, h2, h3, h4, h5, h6]
  by_cases h7 : x7 = y7
  case neg => simp [h0, h1, h2, h3, h4, h5, h6, h7]
  simp [h0, h1, h2, h3, h4, h5, h6, h7]
/-- are two states alike, by what a pager tells of them? -/
def sameP (s t : RSt) : Prop := s.kinds = t.kinds ∧ s.rooms = t.rooms ∧ ∀ i, i < 8 → s.roots i = t.roots i
open Classical in
noncomputable def sameB (s t : RSt) : Bool := decide (sameP s t)
open Classical in
theorem same_no {s t : RSt} (h : ¬ sameP s t) : sameB s t = false := by unfold sameB; exact decide_eq_false h
open Classical in
theorem same_yes {s t : RSt} (h : sameP s t) : sameB s t = true := by unfold sameB; exact decide_eq_true h
theorem row_cell {w : World} {B n cp : Nat} {T : TypeId} {a : Option Addr} {l : List Value} (h : w.ownsRow B T 1 (.slice a n cp) n l) (k : Nat) (hk : k < l.length) : ∃ g, a = some ⟨g, 0, none⟩ ∧ w.cell? ⟨g, k, none⟩ = some (l[k]'hk) ∧ w.frozen? ⟨g, k, none⟩ = false := by
  obtain ⟨a', cp', e, -, h2⟩ := row_slice h
  injection e with e1 _ _
  subst e1
  obtain ⟨g, h3, -, h4, h5⟩ := h2 k hk
  exact ⟨g, h3, h4, h5⟩
section
variable {w w' : World} {B B' : Nat} {vk vr vf uk ur uf : Value} {s t : RSt}
set_option maxRecDepth 10000 in
set_option maxHeartbeats 2000000 in
theorem same_any (h : StAt w B vk vr vf s) (k : StAt w B' uk ur uf t) (hs : s.rooms.length = s.kinds.length) (ht : t.rooms.length = t.kinds.length) : Calls Tryz.prog 27 #[.agg (stC vk vr vf s.roots), .agg (stC uk ur uf t.roots)] w fun e w' => e = .returned (.bool (sameB s t)) ∧ Below w.heap.size w w' := by
  obtain ⟨a1, c1, rfl, -, -⟩ := row_slice h.k
  obtain ⟨a2, c2, rfl, -, -⟩ := row_slice h.r
  obtain ⟨a3, c3, rfl, -, -⟩ := row_slice h.f
  obtain ⟨b1, d1, rfl, -, -⟩ := row_slice k.k
  obtain ⟨b2, d2, rfl, -, -⟩ := row_slice k.r
  obtain ⟨b3, d3, rfl, -, -⟩ := row_slice k.f
  obtain ⟨r, hr⟩ : ∃ r, r = s.roots := ⟨_, rfl⟩
  obtain ⟨q, hq⟩ : ∃ q, q = t.roots := ⟨_, rfl⟩
  obtain ⟨n, hn⟩ : ∃ n, n = s.kinds.length := ⟨_, rfl⟩
  obtain ⟨m, hm⟩ : ∃ m, m = t.kinds.length := ⟨_, rfl⟩
  have HH := Lib.hid (And.intro h k)
  rw [← hr, ← hq]
  have O1 := (Own.made w 38 (stC (.slice a1 s.kinds.length c1) (.slice a2 s.rooms.length c2) (.slice a3 s.free.length c3) r)).more (.cells (stC (.slice b1 t.kinds.length d1) (.slice b2 t.rooms.length d2) (.slice b3 t.free.length d3) q) 38)
  have O2 : Own ((w.alloc (.cells (stC (.slice a1 s.kinds.length c1) (.slice a2 s.rooms.length c2) (.slice a3 s.free.length c3) r) 38)).alloc (.cells (stC (.slice b1 t.kinds.length d1) (.slice b2 t.rooms.length d2) (.slice b3 t.free.length d3) q) 38)) (w.heap.size + 1) 38 (stC (.slice b1 t.kinds.length d1) (.slice b2 t.rooms.length d2) (.slice b3 t.free.length d3) q) := Own.made_at (by simp)
  have B2 : Below w.heap.size w ((w.alloc (.cells (stC (.slice a1 s.kinds.length c1) (.slice a2 s.rooms.length c2) (.slice a3 s.free.length c3) r) 38)).alloc (.cells (stC (.slice b1 t.kinds.length d1) (.slice b2 t.rooms.length d2) (.slice b3 t.free.length d3) q) 38)) := (box_one _ _ _).alloc (by simp) _
  rw [hs, ht, ← hn, ← hm] at O1 O2 B2 ⊢
  unfold stC at O1 O2 B2 ⊢
  obtain ⟨RB, hRB⟩ : ∃ RB, RB = sameB s t := ⟨_, rfl⟩
  rw [← hRB]
  have HE := Lib.hid (And.intro hs (And.intro ht (And.intro hr (And.intro hq (And.intro hn hm)))))
  have HRB := Lib.hid hRB
  have EQ := Lib.hid (fun w => eq_arr8 (r 0) (r 1) (r 2) (r 3) (r 4) (r 5) (r 6) (r 7) (q 0) (q 1) (q 2) (q 3) (q 4) (q 5) (q 6) (q 7) w)
  obtain ⟨b, hb⟩ : ∃ b, b = decide ((r 0 : Int) = (q 0 : Int) ∧ (r 1 : Int) = (q 1 : Int) ∧ (r 2 : Int) = (q 2 : Int) ∧ (r 3 : Int) = (q 3 : Int) ∧ (r 4 : Int) = (q 4 : Int) ∧ (r 5 : Int) = (q 5 : Int) ∧ (r 6 : Int) = (q 6 : Int) ∧ (r 7 : Int) = (q 7 : Int)) := ⟨_, rfl⟩
  rw [← hb] at EQ
  have HB := Lib.hid hb
  have hmx := row_max h.k
  rw [← hn] at hmx
  unfold maxLen at hmx
  clear h k hs ht hr hq hn hm hRB hb
  have EQo := EQ.out
  by_cases c : n = m
  · obtain rfl := c
    cases b with
    | false =>
      have E : Hid (RB = false) := Lib.hid (by
        obtain ⟨-, -, e3, e4, -, -⟩ := HE.out
        rw [HRB.out]
        refine same_no fun hh => (of_decide_eq_false HB.out.symm) ?_
        rw [e3, e4]
        have hh := hh.2.2
        refine ⟨?_, ?_, ?_, ?_, ?_, ?_, ?_, ?_⟩ <;> exact congrArg _ (hh _ (by omega)))
      go_enter Tryz.func27, Tryz.ntmps27
      go_upto_region 1 with fail
      go_name_world W0 hW0
      rw [hW0] at O1 O2 B2
      clear hW0
      obtain ⟨q1, q2, q3⟩ := O1.at_
      obtain ⟨p1, p2, p3⟩ := O2.at_
      have HB2 := Lib.hid B2
      clear B2 O1 O2
      go_wp2
      go_ret
      rw [E.out]
      exact ⟨rfl, HB2.out⟩
    | true =>
      go_enter Tryz.func27, Tryz.ntmps27
      go_upto_region 1 with fail
      go_name_world W0 hW0
      rw [hW0] at O1 O2 B2
      clear hW0
      obtain ⟨q1, q2, q3⟩ := O1.at_
      obtain ⟨p1, p2, p3⟩ := O2.at_
      have HB2 := Lib.hid B2
      have HO1 := Lib.hid O1
      have HO2 := Lib.hid O2
      clear B2 O1 O2
      have HR : Hid (∀ i, i < 8 → s.roots i = t.roots i) := Lib.hid fun i hi => by
        obtain ⟨-, -, e3, e4, -, -⟩ := HE.out
        have h8 := of_decide_eq_true HB.out.symm
        rw [e3, e4] at h8
        obtain ⟨g0, g1, g2, g3, g4, g5, g6, g7⟩ := h8
        rcases upto8 hi with rfl | rfl | rfl | rfl | rfl | rfl | rfl | rfl <;> omega
      go_wp2
      clear q1 q2 q3 p1 p2 p3 EQo
      go_loopw [5] (fun i wr => ∃ k : Nat, k ≤ n ∧ i = .int .i64 (k : Int) ∧ Below W0.heap.size W0 wr ∧ (∀ j, j < k → s.kinds[j]? = t.kinds[j]? ∧ s.rooms[j]? = t.rooms[j]?)) (fun i wr => n - (intOf i).toNat)
      case atStart => exact ⟨0, Nat.zero_le _, rfl, Below.refl _ _, fun j hj => by omega⟩
      case round =>
        obtain ⟨k, hk, rfl, hbw, hall⟩ := hrel
        have HBW := Lib.hid hbw
        have HALL := Lib.hid hall
        obtain ⟨q1, q2, q3⟩ := (HO1.out.keep hbw).at_
        obtain ⟨p1, p2, p3⟩ := (HO2.out.keep hbw).at_
        clear hbw hall
        by_cases hlt : k < n
        · have t1 : decide (k < n) = true := by simpa using hlt
          have HS := HH.out.1.below (then_ HB2.out HBW.out HB2.out.size)
          have HT := HH.out.2.below (then_ HB2.out HBW.out HB2.out.size)
          obtain ⟨e1, e2, -, -, e5, e6⟩ := HE.out
          have l1 : k < s.kinds.length := by omega
          have l2 : k < s.rooms.length := by omega
          have l3 : k < t.kinds.length := by omega
          have l4 : k < t.rooms.length := by omega
          obtain ⟨g1, hg1, c1, -⟩ := row_cell HS.k k (by simpa [natV] using l1)
          obtain ⟨g2, hg2, c2, -⟩ := row_cell HS.r k (by simpa [strV] using l2)
          obtain ⟨g3, hg3, c3, -⟩ := row_cell HT.k k (by simpa [natV] using l3)
          obtain ⟨g4, hg4, c4, -⟩ := row_cell HT.r k (by simpa [strV] using l4)
          subst hg1
          subst hg2
          subst hg3
          subst hg4
          simp only [natV, strV, List.getElem_map] at c1 c2 c3 c4
          have d1 := List.getElem?_eq_getElem l1
          have d2 := List.getElem?_eq_getElem l2
          have d3 := List.getElem?_eq_getElem l3
          have d4 := List.getElem?_eq_getElem l4
          obtain ⟨K1, hK1⟩ : ∃ K, K = s.kinds[k] := ⟨_, rfl⟩
          obtain ⟨S1, hS1⟩ : ∃ K, K = s.rooms[k] := ⟨_, rfl⟩
          obtain ⟨K2, hK2⟩ : ∃ K, K = t.kinds[k] := ⟨_, rfl⟩
          obtain ⟨S2, hS2⟩ : ∃ K, K = t.rooms[k] := ⟨_, rfl⟩
          rw [← hK1] at c1 d1
          rw [← hS1] at c2 d2
          rw [← hK2] at c3 d3
          rw [← hS2] at c4 d4
          obtain ⟨x1, hx1⟩ : ∃ x : Int, x = (K1 : Int) := ⟨_, rfl⟩
          obtain ⟨x2, hx2⟩ : ∃ x : Int, x = (K2 : Int) := ⟨_, rfl⟩
          rw [← hx1] at c1
          rw [← hx2] at c3
          have D := Lib.hid (And.intro d1 (And.intro d2 (And.intro d3 (And.intro d4 (And.intro hx1 hx2)))))
          have DIF : Hid (¬ (K1 = K2 ∧ S1 = S2) → RB = false) := Lib.hid fun hne => by
            rw [HRB.out]
            refine same_no fun hh => hne ?_
            rw [hh.1, d3] at d1
            rw [hh.2.1, d4] at d2
            injection d1 with d1
            injection d2 with d2
            exact ⟨d1.symm, d2.symm⟩
          clear d1 d2 d3 d4 hx1 hx2 hK1 hS1 hK2 hS2 HS HT e1 e2 e5 e6 l1 l2 l3 l4
          go_upto_region 6 with fail
          by_cases n1 : x1 = x2
          · have m1 : (x1 != x2) = false := by simpa using n1
            by_cases n2 : S1 = S2
            · have N12 : Hid (∀ j, j < k + 1 → s.kinds[j]? = t.kinds[j]? ∧ s.rooms[j]? = t.rooms[j]?) := Lib.hid fun j hj => by
                obtain ⟨d1, d2, d3, d4, d5, d6⟩ := D.out
                by_cases e : j = k
                · subst e
                  rw [d1, d2, d3, d4, n2]
                  exact ⟨congrArg some (by omega), rfl⟩
                · exact HALL.out j (by omega)
              subst n2
              clear n1
              go_quiet (fail)
              go_wp2
              go_roundw
              case rel => exact ⟨k + 1, by omega, by go_num, below_drewN HBW.out _, N12.out⟩
              case measure => simp [intOf]; omega
            · have E : Hid (RB = false) := Lib.hid (DIF.out fun h => n2 h.2)
              have m5 : (S1.toList == S2.toList) = false := by
                rw [beq_eq_false_iff_ne, ByteArray.toList_eq, ByteArray.toList_eq]
                exact fun e => n2 (ByteArray.ext (Array.toList_inj.1 e))
              clear n1
              go_quiet (fail)
              go_wp2
              go_ret
              rw [E.out]
              exact ⟨rfl, then_ HB2.out (below_drewN HBW.out _) HB2.out.size⟩
          · have m1 : (x1 != x2) = true := by simpa using n1
            have E : Hid (RB = false) := Lib.hid (DIF.out fun h => n1 (by
              obtain ⟨-, -, -, -, d5, d6⟩ := D.out
              have := h.1
              omega))
            clear n1
            go_quiet (fail)
            go_wp2
            go_ret
            rw [E.out]
            exact ⟨rfl, then_ HB2.out (below_drewN HBW.out _) HB2.out.size⟩
        · obtain rfl : k = n := by omega
          have t1 : decide (k < k) = false := by simp
          have E : Hid (RB = true) := Lib.hid (by
            obtain ⟨e1, e2, -, -, e5, e6⟩ := HE.out
            rw [HRB.out]
            refine same_yes ⟨List.ext_getElem? fun j => ?_, List.ext_getElem? fun j => ?_, HR.out⟩
            · by_cases hj : j < k
              · exact (HALL.out j hj).1
              · rw [List.getElem?_eq_none (by omega), List.getElem?_eq_none (by omega)]
            · by_cases hj : j < k
              · exact (HALL.out j hj).2
              · rw [List.getElem?_eq_none (by omega), List.getElem?_eq_none (by omega)])
          go_wp2
          go_ret
          rw [E.out]
          exact ⟨rfl, then_ HB2.out HBW.out HB2.out.size⟩
  · have E : Hid (RB = false) := Lib.hid (by
      obtain ⟨-, -, -, -, e5, e6⟩ := HE.out
      rw [HRB.out]
      refine same_no fun hh => c ?_
      rw [e5, e6, hh.1])
    have m1 : (n != m) = true := by simpa using c
    have m2 : ((n : Int) != (m : Int)) = true := by simp; omega
    clear c EQo
    go_enter Tryz.func27, Tryz.ntmps27
    go_upto_region 1 with fail
    go_name_world W0 hW0
    rw [hW0] at O1 O2 B2
    clear hW0
    obtain ⟨q1, q2, q3⟩ := O1.at_
    obtain ⟨p1, p2, p3⟩ := O2.at_
    have HB2 := Lib.hid B2
    clear B2 O1 O2
    go_wp2
    go_ret
    rw [E.out]
    exact ⟨rfl, HB2.out⟩
end
end Go.Proofs.YtndhmidgnpobjaaGreatDoor
end
section
namespace Go.Proofs.YtndhmidgnpobjaaGreatDoor
open Go.ChangeShapes Go.WideShapes Go.ChangeAt Go.RowKit
set_option linter.unusedVariables false
set_option linter.unusedSimpArgs false

theorem load_o (w : World) (s : ByteArray) (n : Nat) (h0 : s.size = n * 64) (h1 : 1 ≤ n) (h2 : n ≤ 65536) :
    Calls Tryz.prog 40 #[.string s] w fun e w' => ∃ d, e = .returned (.tuple #[.pointer (some ⟨d, 0, none⟩), .int .i64 0]) ∧ DiskO w' w.heap.size d n ⟨s.data.toList, [], -1, false⟩ ∧ Below w.heap.size w w' := by
  have HI := isCount_any n w (wf_mk (by omega) (by omega))
  have e1 : (decide (1 ≤ (n : Int)) && decide ((n : Int) ≤ 65536)) = true := by simp; omega
  rw [e1] at HI
  replace HI := Lib.hid HI
  obtain ⟨c, w1, hc, hc1, hB, hb, hz⟩ := to_bytes_cap Tryz.prog w 9 99 5 s Tryz.underlying9 Tryz.underlying99 Tryz.underlying5
  rw [h0] at hc hc1
  have HO := Lib.hid (over_any w1 w.heap.size c n s.data.toList hB h0 h1 h2 hc1)
  have t1 : ((s.size : Int) % 64 == 0) = true := by simp; omega
  have t1' : ((s.size : Int) % 64 != 0) = false := by simp; omega
  have t2 : (s.size : Int) / 64 = (n : Int) := by omega
  have hm : s.size ≤ 9223372036854775807 := by omega
  replace hb := Lib.hid hb
  have T2 := Lib.hid h0
  clear e1 h0 hB
  go_enter Tryz.func40, Tryz.ntmps40
  go_wp2_with (first | (go_at_call 57; refine HI.out.mono ?_; rintro e w' ⟨rfl, rfl⟩) | (go_at_call 58; refine HO.out.mono ?_; rintro e w' ⟨d, mb, rfl, a1, a2, a3, a4⟩))
  go_ret2
  exact ⟨_, rfl, ⟨_, _, _, _, a1, Nat.le_trans hb.out.size a3, Nat.le_refl _, Nat.le_trans hb.out.size a4, fun g hg => by cases hg⟩, then_ hb.out a2 hb.out.size⟩
section
variable {w w' : World} {B B0 Bp d p c N ll room : Nat} {s : St} {P : PS}
theorem len_o (h : DiskO w B d N s) : Calls Tryz.prog 41 #[.pointer (some ⟨d, 0, none⟩)] w fun e w' => e = .returned (.int .i64 (N : Int)) ∧ w = w' := by
  obtain ⟨sb, mb, sc, wv, hD, -⟩ := h
  exact len_any hD
theorem pend_o (h : DiskO w B d N s) (hw : s.wr = []) : Calls Tryz.prog 42 #[.pointer (some ⟨d, 0, none⟩)] w fun e w' => e = .returned (.int .i64 0) ∧ w = w' := by
  obtain ⟨sb, mb, sc, wv, hD, -⟩ := h
  have := pending_any hD
  rw [hw] at this
  exact this
theorem fmt_bad (h : DiskO w B d N s) (log : Int) (hl : (Lit.int .i64 log).wf = true) (hb : log < 10 ∨ (N : Int) - 10 < log) : Calls Tryz.prog 14 #[.pointer (some ⟨d, 0, none⟩), .int .i64 log] w fun e w' => e = .returned (.int .i64 1) ∧ Below w.heap.size w w' := by
  obtain ⟨sb, mb, sc, wv, hD, -⟩ := h
  exact fmt_no hD log hl hb
theorem Newp.root (h : Newp P N ll room) (i : Nat) (hi : i < 8) : P.root i = 0 := by
  unfold PS.root
  rw [h.view]
  exact hroom_R 1 0 _ i hi (by omega)
theorem told_o (h : PagerAt w B Bp d p 2 P) (hn : Newp P N ll room) : Calls Tryz.prog 16 #[.pointer (some ⟨p, 0, none⟩)] w fun e w' => (∃ ka kc ra rc, e = .returned (.tuple #[.agg (stC (.slice ka 1 kc) (.slice ra 1 rc) (.slice none 0 0) P.root), .bool true]) ∧ StAt w' w.heap.size (.slice ka 1 kc) (.slice ra 1 rc) (.slice none 0 0) ⟨[1], [hroom 1 0 (fun _ => 0)], [], P.root⟩) ∧ PagerAt w' B Bp d p 60002 P ∧ Below B w w' := by
  have e1 : P.kindL P.used = [1] := by
    rw [hn.used]
    show [(P.view 0).1.1] = [1]
    rw [hn.view]
    rfl
  have e2 : P.roomL P.used = [hroom 1 0 (fun _ => 0)] := by
    rw [hn.used]
    show [(P.view 0).1.2] = _
    rw [hn.view]
    rfl
  have := told_ok h hn.up (fun i hi => by
    have e := hn.used
    obtain rfl : i = 0 := by omega
    rw [hn.view]) 60000 (by rw [hn.used]; omega) (by omega)
  rw [e1, e2] at this
  refine this.mono ?_
  rintro e w' ⟨⟨vk, vr, rfl, hs⟩, a2, a3⟩
  obtain ⟨ka, kc, rfl, -, -⟩ := row_slice hs.k
  obtain ⟨ra, rc, rfl, -, -⟩ := row_slice hs.r
  exact ⟨⟨ka, kc, ra, rc, rfl, hs⟩, a2, pt_below h a3⟩
theorem same_o {B1 B2 : Nat} {vk vr vf uk ur uf : Value} {r : Nat → Nat} (h : StAt w B1 vk vr vf ⟨[1], [hroom 1 0 (fun _ => 0)], [], r⟩) (hr : ∀ i, i < 8 → r i = 0) (k : StAt w B2 uk ur uf st0) : Calls Tryz.prog 27 #[.agg (stC vk vr vf r), .agg (stC uk ur uf fun _ => 0)] w fun e w' => e = .returned (.bool true) ∧ Below w.heap.size w w' := by
  have := same_any h k rfl rfl
  rw [same_yes (s := ⟨[1], [hroom 1 0 (fun _ => 0)], [], r⟩) (t := st0) ⟨rfl, rfl, hr⟩] at this
  exact this
theorem ref_new {B1 m n : Nat} (h : RefO w B1 p (rs0 m n)) : ∃ sk sr sf wk wr wf vd, Own w p 61 #[.int .i64 (m : Int), .int .i64 (n : Int), sk, sr, sf, .int .u64 0, .int .u64 0, .int .u64 0, .int .u64 0, .int .u64 0, .int .u64 0, .int .u64 0, .int .u64 0, wk, wr, wf, .int .u64 0, .int .u64 0, .int .u64 0, .int .u64 0, .int .u64 0, .int .u64 0, .int .u64 0, .int .u64 0, vd] ∧ StAt w B1 sk sr sf st0 := by
  obtain ⟨sk, sr, sf, wk, wr, wf, vd, h⟩ := h
  exact ⟨sk, sr, sf, wk, wr, wf, vd, h.own, h.sure⟩
end
end Go.Proofs.YtndhmidgnpobjaaGreatDoor
end
