/- merged: The contract of a layout's write: steps, each flushed ahead of the next. Conditions: the disk's blocks as they lie; what each step does. The contracts of the steps by which pages and marks are written. Conditions: the disk's blocks as they lie. -/
import Derived.Test.YtndhmidgnpobjaaGreatDoorPgrI
section
namespace Go.Proofs.YtndhmidgnpobjaaGreatDoor
open Go.ChangeShapes Go.WideShapes Go.ChangeAt Go.RowKit
set_option linter.unusedVariables false
set_option linter.unusedSimpArgs false

/-- all that n steps do -/
def allOps (op : Nat → List Dop) (n : Nat) : List Dop := (List.range n).flatMap fun k => op k ++ [none]
theorem allOps_succ (op : Nat → List Dop) (n : Nat) : allOps op (n + 1) = allOps op n ++ op n ++ [none] := by simp [allOps, List.range_succ]
/-- what was there at w, but for what Z says, is there as it was -/
def Since (w W : World) (Z : Nat → Prop) : Prop := w.heap.size ≤ W.heap.size ∧ ∀ q, q < w.heap.size → ¬ Z q → W.heap[q]? = w.heap[q]?
theorem Since.own {w W : World} {Z : Nat → Prop} (h : Since w W Z) {p : Nat} {T : TypeId} {cs : Array Value} (ho : Own w p T cs) (hn : ¬ Z p) : Own W p T cs := (h.2 p ho.in_ hn).trans ho
/-- the function value by which a step writes -/
def putV (pf bl : Nat) : Value := .func (.func 123) #[] #[.pointer (some ⟨pf, 0, none⟩), .pointer (some ⟨bl, 0, none⟩)]
/-- a step does these calls of the disk -/
def StepDoes (w : World) (d sb mb sc : Nat) (wv : Value) (N ll : Nat) (gf : Nat) (cp : Array Value) (op : List Dop) : Prop :=
  ∀ (W : World) (x : Int × St) (bl pe pf : Nat) (wv1 : Value), Since w W (fp d sb mb wv) → DiskAt W d sb mb sc wv1 N x.2 → Own W bl 105 #[.pointer (some ⟨d, 0, none⟩), .int .i64 (ll : Int)] →
    Own W pf 194 #[.func (.func 122) #[] #[.pointer (some ⟨pe, 0, none⟩)]] → Own W pe 26 #[.int .i64 x.1] → (∀ q, fp d sb mb wv1 q → q ≠ bl ∧ q ≠ pf ∧ q ≠ pe) → x.2.wr.length ≤ 800000 → w.heap.size ≤ bl → w.heap.size ≤ pe → w.heap.size ≤ pf →
    (∀ q, fp d sb mb wv1 q → fp d sb mb wv q ∨ w.heap.size ≤ q) →
    Calls Tryz.prog gf (#[putV pf bl] ++ cp) W fun e w' => e = .returned (.tuple #[]) ∧ Stepped W w' pe d sb mb sc wv1 N (runW N op x)
section
variable {w : World} {d sb mb sc : Nat} {wv : Value} {N : Nat} {s : St}
set_option maxRecDepth 10000 in
set_option maxHeartbeats 2000000 in
theorem pwrite_any (hD : DiskAt w d sb mb sc wv N s) (ll n : Nat) (gf : Nat → Nat) (cp : Nat → Array Value) (op : Nat → List Dop) (bs : Nat) (cs : Array Value) (hS : Own w bs 109 cs)
    (hcs : ∀ k, k < n → cs[k]? = some (.func (.func (gf k)) #[] (cp k))) (HE : ∀ k, k < n → ∀ (args : Array Value) (W : World), (callFunc (gf k) args).run Tryz.prog W = .ok (.enter (gf k) args) W)
    (HK : ∀ k, k < n → StepDoes w d sb mb sc wv N ll (gf k) (cp k) (op k)) (hn : n ≤ 1000) (h1 : 1 ≤ n) (hlen : ∀ k, k ≤ n → s.wr.length + (allOps op k).length ≤ 700000) :
    Calls Tryz.prog 65 #[layV d ll, .slice (some ⟨bs, 0, none⟩) n n] w fun e w' => e = .returned (.int .i64 (runW N (allOps op n) (0, s)).1) ∧
      ∃ wv', DiskAt w' d sb mb sc wv' N (runW N (allOps op n) (0, s)).2 ∧ Chg (fp d sb mb wv) w w' ∧ (wv'.ownBlock = wv.ownBlock ∨ wv'.ownBlock = none ∨ ∃ g, wv'.ownBlock = some g ∧ w.heap.size ≤ g) := by
  have zD : ∀ q, fp d sb mb wv q → q < w.heap.size := fun q hq => hD.in_ hq
  have zS := hS.in_
  have nS : ¬ fp d sb mb wv bs := hD.no_own hS (by decide) (by decide) (fun x => by rw [hcs 0 (by omega)]; simp)
  have HD := Lib.hid hD
  have HS := Lib.hid hS
  have HCS := Lib.hid hcs
  have HKh := Lib.hid HK
  have HEh := Lib.hid HE
  have HL := Lib.hid hlen
  have HZD := Lib.hid zD
  have NS := Lib.hid nS
  clear hD hS hcs HK HE hlen zD nS
  unfold layV
  go_enter Tryz.func65, Tryz.ntmps65
  go_upto_region 3 with fail
  have o1 : Own (((w.alloc (.cells #[.pointer (some ⟨d, 0, none⟩), .int .i64 (ll : Int)] 105)).alloc (.cells #[.int .i64 0] 26)).alloc (.cells #[.func (.func 122) #[] #[.pointer (some ⟨w.heap.size + 1, 0, none⟩)]] 194)) w.heap.size 105 #[.pointer (some ⟨d, 0, none⟩), .int .i64 (ll : Int)] := ((Own.made w _ _).more _).more _
  have o2 : Own (((w.alloc (.cells #[.pointer (some ⟨d, 0, none⟩), .int .i64 (ll : Int)] 105)).alloc (.cells #[.int .i64 0] 26)).alloc (.cells #[.func (.func 122) #[] #[.pointer (some ⟨w.heap.size + 1, 0, none⟩)]] 194)) (w.heap.size + 1) 26 #[.int .i64 0] := (Own.made_at (by simp)).more _
  have o3 : Own (((w.alloc (.cells #[.pointer (some ⟨d, 0, none⟩), .int .i64 (ll : Int)] 105)).alloc (.cells #[.int .i64 0] 26)).alloc (.cells #[.func (.func 122) #[] #[.pointer (some ⟨w.heap.size + 1, 0, none⟩)]] 194)) (w.heap.size + 1 + 1) 194 #[.func (.func 122) #[] #[.pointer (some ⟨w.heap.size + 1, 0, none⟩)]] := Own.made_at (by simp)
  go_name_world W0 hW0
  rw [hW0] at o1 o2 o3
  have B0 : Below w.heap.size w W0 := hW0 ▸ (((Below.refl _ _).alloc (Nat.le_refl _) _).alloc (by simp) _).alloc (by simp; omega) _
  clear hW0
  obtain ⟨bl, hbl⟩ : ∃ bl, bl = w.heap.size := ⟨_, rfl⟩
  obtain ⟨pe, hpe⟩ : ∃ pe, pe = bl + 1 := ⟨_, rfl⟩
  obtain ⟨pf, hpf⟩ : ∃ pf, pf = pe + 1 := ⟨_, rfl⟩
  rw [← hbl, ← hpe, ← hpf] at o3
  rw [← hbl, ← hpe] at o2
  rw [← hbl] at o1
  have e2 : w.heap.size + 2 = pf := by omega
  try rw [e2]
  rw [← hbl, ← hpe]
  try rw [← hpf]
  have z0 : pf < W0.heap.size := o3.in_
  have z1 : bl < pe := by omega
  have z2 : pe < pf := by omega
  have S0 : Stepped W0 W0 pe d sb mb sc wv N (0, s) := Stepped.same (HD.out.below B0) o2
  have HZ2 : Hid (∀ q, fp d sb mb wv q → q < bl) := Lib.hid (by rw [hbl]; exact HZD.out)
  have hap : Hid (∀ q, fp d sb mb wv q → q ≠ bl ∧ q ≠ pf ∧ q ≠ pe) := Lib.hid fun q hq => by have := HZ2.out q hq; exact ⟨by omega, by omega, by omega⟩
  replace o1 := Lib.hid o1
  replace o3 := Lib.hid o3
  replace S0 := Lib.hid S0
  have HBL := Lib.hid hbl
  replace B0 := Lib.hid B0
  clear hbl hpe hpf o2 e2
  have GET : Hid (∀ (W : World) (x : Int × St), Stepped W0 W pe d sb mb sc wv N x → ∃ wv1, DiskAt W d sb mb sc wv1 N x.2 ∧ Own W pe 26 #[.int .i64 x.1] ∧ Chg (fun q => fp d sb mb wv q ∨ q = pe) W0 W ∧ (wv1.ownBlock = wv.ownBlock ∨ wv1.ownBlock = none ∨ ∃ g, wv1.ownBlock = some g ∧ W0.heap.size ≤ g) ∧
      Own W bl 105 #[.pointer (some ⟨d, 0, none⟩), .int .i64 (ll : Int)] ∧ Own W pf 194 #[.func (.func 122) #[] #[.pointer (some ⟨pe, 0, none⟩)]] ∧ (∀ q, fp d sb mb wv1 q → q ≠ bl ∧ q ≠ pf ∧ q ≠ pe) ∧ Since w W (fp d sb mb wv) ∧ Own W bs 109 cs) := Lib.hid fun W x h => by
    obtain ⟨wv1, hD1, hE1, hc1, hv1⟩ := h
    have hk1 : ∀ q, q < W0.heap.size → ¬ fp d sb mb wv q → q ≠ pe → W.heap[q]? = W0.heap[q]? := fun q h1 h2 h3 => hc1.block q h1 (fun h => by rcases h with h | h; exact h2 h; exact h3 h)
    have hb := HBL.out
    have hs := B0.out.size
    have hs1 := hc1.size
    have hSi : Since w W (fp d sb mb wv) := ⟨by omega, fun q hq hz => (hk1 q (by omega) hz (by omega)).trans (B0.out.block q hq)⟩
    refine ⟨wv1, hD1, hE1, hc1, hv1, (hk1 bl o1.out.in_ (fun h => (hap.out bl h).1 rfl) (by omega)).trans o1.out, (hk1 pf o3.out.in_ (fun h => (hap.out pf h).2.1 rfl) (by omega)).trans o3.out, fun q hq => ?_, hSi, hSi.own HS.out NS.out⟩
    rcases fp_next hv1 hq with h | h
    · exact hap.out q h
    · exact ⟨by omega, by omega, by omega⟩
  go_wp2
  go_loopw [12] (fun i wr => ∃ k : Nat, k ≤ n ∧ i = .int .i64 k ∧ Stepped W0 wr pe d sb mb sc wv N (runW N (allOps op k) (0, s))) (fun i wr => n - (intOf i).toNat)
  case atStart => exact ⟨0, by omega, rfl, S0.out⟩
  case round =>
    obtain ⟨k, hk, rfl, hSt⟩ := hrel
    by_cases hlt : k < n
    · obtain ⟨wv1, hD1, hE1, hc1, hv1, L1, F1, hap1, hSi, hQ⟩ := GET.out _ _ hSt
      have hrl := runW_len N (allOps op k) (0, s)
      have hll := HL.out k hk
      have hck : wr.cell? ⟨bs, k, none⟩ = some (.func (.func (gf k)) #[] (cp k)) := by rw [hQ.at_.1 k, HCS.out k hlt]
      have HEk := HEh.out k hlt
      have hb := HBL.out
      have hbs := B0.out.size
      have HKk := HKh.out k hlt wr (runW N (allOps op k) (0, s)) bl pe pf wv1 hSi hD1 L1 F1 hE1 hap1 (by simp only at hrl; omega) (by omega) (by omega) (by omega) (fun q hq => (fp_next hv1 hq).imp_right fun h => by omega)
      rw [← runW_app] at HKk
      unfold putV at HKk
      have C1 := Lib.hid (And.intro hD1 (And.intro hc1 hv1))
      have HA := Lib.hid (allOps_succ op k)
      obtain ⟨G, hG⟩ : ∃ G, G = gf k := ⟨_, rfl⟩
      obtain ⟨cpk, hcp⟩ : ∃ cpk, cpk = cp k := ⟨_, rfl⟩
      rw [← hG, ← hcp] at hck HKk
      rw [← hG] at HEk
      replace HKk := Lib.hid HKk
      clear hD1 hE1 hc1 hv1 L1 F1 hap1 hSi hQ hSt hrl hll hb hbs hG hcp
      go_wp2_with fail
      refine HKk.out.mono ?_
      rintro e w5 ⟨rfl, hS5⟩
      have hS6 := Stepped.then_ C1.out.1 C1.out.2.1 C1.out.2.2 hS5
      obtain ⟨wv2, hD2, hE2, hc2, hv2, L2, F2, hap2, hSi2, hQ2⟩ := GET.out _ _ hS6
      have HF2 := pdofl_any hE2 hD2 (fun h => (hap2 pe h).2.2 rfl)
      rw [← runW_snoc, ← HA.out] at HF2
      replace HF2 := Lib.hid HF2
      have C2 := Lib.hid (And.intro hD2 (And.intro hc2 hv2))
      obtain ⟨l1, l2, l3⟩ := L2.at_
      obtain ⟨f1, f2, f3⟩ := F2.at_
      clear hS5 hS6 hD2 hE2 hc2 hv2 L2 F2 hap2 hSi2 hQ2 hck HEk
      go_wp2_with fail
      refine HF2.out.mono ?_
      rintro e w7 ⟨rfl, hS7⟩
      have hS8 := Lib.hid (Stepped.then_ C2.out.1 C2.out.2.1 C2.out.2.2 hS7)
      clear hS7 l1 l2 l3 f1 f2 f3
      go_wp2
      go_roundw
      case rel => exact ⟨k + 1, by omega, by go_num, hS8.out⟩
      case measure => simp [intOf]; omega
    · obtain rfl : k = n := by omega
      obtain ⟨wv1, hD1, hE1, hc1, hv1, L1, F1, hap1, hSi, hQ⟩ := GET.out _ _ hSt
      obtain ⟨x, hx⟩ : ∃ x, x = runW N (allOps op k) (0, s) := ⟨_, rfl⟩
      rw [← hx] at hD1 hE1 hSt
      have HX := Lib.hid hx
      obtain ⟨e1, e2, e3⟩ := hE1.at_
      have C1 := Lib.hid (And.intro hD1 (And.intro hc1 hv1))
      clear hx hD1 hE1 hc1 hv1 L1 F1 hap1 hSi hQ hSt
      go_wp2
      go_ret
      have hb := HBL.out
      have hbs := B0.out.size
      rw [← HX.out]
      refine ⟨rfl, wv1, C1.out.1, (Chg.of B0.out).trans C1.out.2.1 fun q hq h => h.elim id fun h => by omega, ?_⟩
      rcases C1.out.2.2 with h | h | ⟨g, h, hg⟩
      · exact .inl h
      · exact .inr (.inl h)
      · exact .inr (.inr ⟨g, h, by omega⟩)
end
end Go.Proofs.YtndhmidgnpobjaaGreatDoor
end
section
namespace Go.Proofs.YtndhmidgnpobjaaGreatDoor
open Go.ChangeShapes Go.WideShapes Go.ChangeAt Go.RowKit
set_option linter.unusedVariables false
set_option linter.unusedSimpArgs false

/-- what a step finds: the disk, and how it writes -/
structure PCtx (W : World) (bl pe pf d sb mb sc : Nat) (wv : Value) (N ll : Nat) (x : Int × St) : Prop where
  disk : DiskAt W d sb mb sc wv N x.2
  lay : Own W bl 105 #[.pointer (some ⟨d, 0, none⟩), .int .i64 (ll : Int)]
  fn : Own W pf 194 #[.func (.func 122) #[] #[.pointer (some ⟨pe, 0, none⟩)]]
  err : Own W pe 26 #[.int .i64 x.1]
  apart : ∀ q, fp d sb mb wv q → q ≠ bl ∧ q ≠ pf ∧ q ≠ pe
section
variable {W W' : World} {bl pe pf d sb mb sc : Nat} {wv : Value} {N ll : Nat} {x y : Int × St}
theorem PCtx.below (h : PCtx W bl pe pf d sb mb sc wv N ll x) (hb : Below W.heap.size W W') : PCtx W' bl pe pf d sb mb sc wv N ll x :=
  ⟨h.disk.below hb, h.lay.keep hb, h.fn.keep hb, h.err.keep hb, h.apart⟩
/-- behind a step -/
theorem PCtx.next (h : PCtx W bl pe pf d sb mb sc wv N ll x) (hs : Stepped W W' pe d sb mb sc wv N y) : ∃ wv', PCtx W' bl pe pf d sb mb sc wv' N ll y ∧ Chg (fun q => fp d sb mb wv q ∨ q = pe) W W' ∧ (wv'.ownBlock = wv.ownBlock ∨ wv'.ownBlock = none ∨ ∃ g, wv'.ownBlock = some g ∧ W.heap.size ≤ g) := by
  obtain ⟨wv', hD, hE, hc, hv⟩ := hs
  have hbl : bl ≠ pe := h.lay.type_ne h.err (by decide)
  have hpf : pf ≠ pe := h.fn.type_ne h.err (by decide)
  refine ⟨wv', ⟨hD, hc.own h.lay fun k => k.elim (fun k => (h.apart bl k).1 rfl) hbl, hc.own h.fn fun k => k.elim (fun k => (h.apart pf k).2.1 rfl) hpf, hE, fun q hq => ?_⟩, hc, hv⟩
  rcases fp_next hv hq with k | k
  · exact h.apart q k
  · have h1 := h.lay.in_
    have h2 := h.fn.in_
    have h3 := h.err.in_
    exact ⟨by omega, by omega, by omega⟩
theorem PCtx.put (h : PCtx W bl pe pf d sb mb sc wv N ll x) (at_ n : Nat) (g : Nat → ByteArray) (b : Nat) (cs : Array Value) (hS : Own W b 9 cs) (hcs : ∀ i, i < n → cs[i]? = some (.string (g i))) (hg : ∀ i, i < n → (g i).size ≤ maxLen) (hn : n ≤ 1000) (h1 : 1 ≤ n) (hat : at_ ≤ 1000000) (hl : x.2.wr.length ≤ 900000) :
    Calls Tryz.prog 123 #[.int .i64 (at_ : Int), .slice (some ⟨b, 0, none⟩) n n, .pointer (some ⟨pf, 0, none⟩), .pointer (some ⟨bl, 0, none⟩)] W fun e w' => e = .returned (.tuple #[]) ∧ Stepped W w' pe d sb mb sc wv N (runW N (putOps at_ g n) x) :=
  put96 x h.lay h.fn h.err h.disk at_ n g b cs hS hcs hg hn h1 hat hl h.apart
/-- behind what only makes blocks -/
theorem Stepped.from_ {w1 : World} (h : Stepped w1 W' pe d sb mb sc wv N y) (hb : Below W.heap.size W w1) : Stepped W W' pe d sb mb sc wv N y := by
  obtain ⟨wv', hD, hE, hc, hv⟩ := h
  refine ⟨wv', hD, hE, (Chg.of hb).same hc, ?_⟩
  have := hb.size
  rcases hv with h | h | ⟨g, h, hg⟩
  · exact .inl h
  · exact .inr (.inl h)
  · exact .inr (.inr ⟨g, h, by omega⟩)
/-- the writes of a page -/
def pgOps (ll no : Nat) (x : Pag) : List Dop := putOps (2 + ll + no * 8) (Pg.secB (pgB x.1 no x.2)) 8
set_option maxRecDepth 10000 in
set_option maxHeartbeats 1000000 in
theorem page89 (h : PCtx W bl pe pf d sb mb sc wv N ll x) (no : Nat) (pg : Pag) (hp : PagOk pg) (hno : no ≤ 100000) (hll : ll ≤ 100000) (hl : x.2.wr.length ≤ 900000) (b1 b2 : Nat) (h1 : Own W b1 105 #[.pointer (some ⟨d, 0, none⟩), .int .i64 (ll : Int)]) (h2 : Own W b2 112 #[.int .i64 (no : Int), .int .i64 (pg.1 : Int), .string pg.2]) :
    Calls Tryz.prog 116 #[putV pf bl, .pointer (some ⟨b1, 0, none⟩), .pointer (some ⟨b2, 0, none⟩)] W fun e w' => e = .returned (.tuple #[]) ∧ Stepped W w' pe d sb mb sc wv N (runW N (pgOps ll no pg) x) := by
  have HP := Lib.hid (fun W => place_any d ll no W hll (by omega))
  have HB := Lib.hid (fun W => bytes_any no pg W hp (by omega))
  have hz : (pgB pg.1 no pg.2).size = 512 := pgB_size _ _ _ (by have := hp.size; omega)
  have HC := Lib.hid (fun W => Pg.cut_yes (pgB pg.1 no pg.2) W hz)
  have HSZ := Lib.hid (fun i hi => Pg.secB_size (pgB pg.1 no pg.2) i hz hi)
  have HCG := Lib.hid (fun i (hi : i < 8) => show (Pg.cutC (pgB pg.1 no pg.2) 8)[i]? = some (.string (Pg.secB (pgB pg.1 no pg.2) i)) from by rw [Pg.cutC_get _ 8 i hi]; unfold Pg.cutV; rw [if_pos hi])
  have HH := Lib.hid h
  have H1 := Lib.hid h1
  have H2 := Lib.hid h2
  have HO := Lib.hid (show pgOps ll no pg = putOps (2 + ll + no * 8) (Pg.secB (pgB pg.1 no pg.2)) 8 from rfl)
  rw [HO.out]
  obtain ⟨G, hG⟩ : ∃ G, G = pgB pg.1 no pg.2 := ⟨_, rfl⟩
  rw [← hG] at HB HC HSZ HCG ⊢
  unfold layV at HP
  unfold shV at HB
  obtain ⟨p, hpp⟩ : ∃ p, p = 2 + ll + no * 8 := ⟨_, rfl⟩
  have hp6 : p ≤ 1000000 := by omega
  rw [← hpp] at HP ⊢
  clear h h1 h2 hp hz HO hG hpp
  unfold putV
  go_enter Tryz.func116, Tryz.ntmps116
  go_upto_region 0 with fail
  refine wp_region_seq (fun W1 => Own W1 b1 105 #[.pointer (some ⟨d, 0, none⟩), .int .i64 (ll : Int)] ∧ Own W1 b2 112 #[.int .i64 (no : Int), .int .i64 (pg.1 : Int), .string pg.2]) (0 :: 1 :: 2 :: 3 :: 5 :: []) (1 :: 3 :: 5 :: []) (0 :: 1 :: 2 :: 3 :: 5 :: 4 :: 6 :: 7 :: 8 :: []) (by kernel_rfl) (by kernel_rfl) rfl (by kernel_rfl) rfl (⟨H1.out.drawn, H2.out.drawn⟩) (by simp only [picked, List.filterMap_cons, List.filterMap_nil, List.getElem?_cons_zero, List.getElem?_cons_succ, Option.map_some]; exact rfl) ?_
  iterate 5
    refine seq_want (v := ?_) rfl rfl (fun W hS => ?_) ?_
    rotate_left
    · first
        | (conv => lhs; simp [go_sem]
           first | done | exact rfl)
        | (have hS := hS rfl
           obtain ⟨q1, q2⟩ := hS
           obtain ⟨q1, q3, q4⟩ := Own.at_ q1
           obtain ⟨q2, q5, q6⟩ := Own.at_ q2
           conv => lhs; simp [go_sem, *]
           first | done | exact rfl)
    simp only [Act.put, List.setIfInBounds_toArray, List.set_cons_zero, List.set_cons_succ]
  refine seq_on rfl rfl fun K hK => ?_
  go_wp2_with (go_at_call 117; refine (HP.out _).mono ?_; rintro e w2 ⟨rfl, hb2⟩)
  have B2 := Lib.hid (then_ (Below.refl W.heap.size W).drew hb2 (Nat.le_refl _))
  refine hK _ _ ⟨H1.out.keep B2.out, H2.out.keep B2.out⟩ ?_
  clear hK K hb2
  refine seq_on rfl rfl fun K hK => ?_
  go_wp2_with (go_at_call 119; refine (HB.out _).mono ?_; rintro e w3 ⟨rfl, hb3⟩)
  have B3 := Lib.hid (then_ B2.out hb3 B2.out.size)
  refine hK _ _ ⟨H1.out.keep B3.out, H2.out.keep B3.out⟩ ?_
  clear hK K hb3
  refine seq_on rfl rfl fun K hK => ?_
  go_wp2_with (go_at_call 118; refine (HC.out _).mono ?_; rintro e w4 ⟨rfl, ho4, hb4⟩)
  have B4 := Lib.hid (then_ B3.out hb4 B3.out.size)
  have O4 := Lib.hid ho4
  refine hK _ _ ⟨H1.out.keep B4.out, H2.out.keep B4.out⟩ ?_
  clear hK K hb4 ho4
  have HPUT := Lib.hid ((HH.out.below B4.out).put p 8 (Pg.secB G) w3.heap.size (Pg.cutC G 8) O4.out HCG.out (fun i hi => by rw [HSZ.out i hi]; unfold maxLen; omega) (by omega) (by omega) hp6 hl)
  refine seq_on rfl rfl fun K hK => ?_
  go_wp2_with fail
  refine HPUT.out.mono ?_
  rintro e w5 ⟨rfl, hS5⟩
  have K1 : Own w5 b1 105 #[.pointer (some ⟨d, 0, none⟩), .int .i64 (ll : Int)] := by
    obtain ⟨wv', -, -, hc, -⟩ := hS5
    exact hc.own (H1.out.keep B4.out) fun k => k.elim (HH.out.disk.no_own H1.out (by decide) (by decide) (by simp)) (H1.out.type_ne HH.out.err (by decide))
  have K2 : Own w5 b2 112 #[.int .i64 (no : Int), .int .i64 (pg.1 : Int), .string pg.2] := by
    obtain ⟨wv', -, -, hc, -⟩ := hS5
    exact hc.own (H2.out.keep B4.out) fun k => k.elim (HH.out.disk.no_own H2.out (by decide) (by decide) (by simp)) (H2.out.type_ne HH.out.err (by decide))
  have hS6 := Lib.hid (Stepped.from_ hS5 B4.out)
  replace K1 := Lib.hid K1
  replace K2 := Lib.hid K2
  clear hS5
  go_wp2
  refine hK _ _ ⟨K1.out, K2.out⟩ ?_
  clear hK K
  refine seq_end ?_
  go_wp2
  go_end0
  exact ⟨rfl, hS6.out⟩
set_option maxRecDepth 10000 in
theorem mark102 (h : PCtx W bl pe pf d sb mb sc wv N ll x) (seq : Nat) (t : ByteArray) (hs : seq ≤ 18446744073709551615) (ht : t.size ≤ maxLen) (hl : x.2.wr.length ≤ 900000) (b1 b2 : Nat) (h1 : Own W b1 35 #[.int .u64 (seq : Int)]) (h2 : Own W b2 9 #[.string t]) :
    Calls Tryz.prog 129 #[putV pf bl, .pointer (some ⟨b1, 0, none⟩), .pointer (some ⟨b2, 0, none⟩)] W fun e w' => e = .returned (.tuple #[]) ∧ Stepped W w' pe d sb mb sc wv N (runW N [some (seq % 2, t)] x) := by
  have hcs : ∀ i, i < 1 → (#[Value.string t] : Array Value)[i]? = some (.string t) := fun i hi => by
    have : i = 0 := by omega
    subst this; rfl
  have hm2 : seq % 2 ≤ 1000000 := by omega
  have HPUT := Lib.hid ((h.below (box_one W 9 #[.string t])).put (seq % 2) 1 (fun _ => t) W.heap.size #[.string t] (Own.made _ _ _) hcs (fun i hi => ht) (by omega) (by omega) hm2 hl)
  rw [show putOps (seq % 2) (fun _ => t) 1 = [some (seq % 2, t)] from rfl] at HPUT
  have w1 : IntKind.i64.wrap ((seq : Int) % 2) = ((seq % 2 : Nat) : Int) := by rw [IntKind.wrap_i64]; omega
  have B1 := Lib.hid (box_one W 9 #[.string t])
  obtain ⟨q1, q2, q3⟩ := h1.at_
  obtain ⟨q4, q5, q6⟩ := h2.at_
  clear h h1 h2
  obtain ⟨sq, hsq⟩ : ∃ sq : Nat, sq = seq % 2 := ⟨_, rfl⟩
  rw [← hsq] at HPUT w1 ⊢
  clear hsq
  unfold putV
  go_enter Tryz.func129, Tryz.ntmps129
  go_wp2_with fail
  refine HPUT.out.mono ?_
  rintro e w5 ⟨rfl, hS5⟩
  have hS6 := Lib.hid (Stepped.from_ hS5 B1.out)
  clear hS5
  go_wp2
  go_end0
  exact ⟨rfl, hS6.out⟩
set_option maxRecDepth 10000 in
theorem fmt46 (h : PCtx W bl pe pf d sb mb sc wv N ll x) (t : ByteArray) (ht : t.size ≤ maxLen) (hl : x.2.wr.length ≤ 900000) (b1 : Nat) (h1 : Own W b1 9 #[.string t]) :
    Calls Tryz.prog 61 #[putV pf bl, .pointer (some ⟨b1, 0, none⟩)] W fun e w' => e = .returned (.tuple #[]) ∧ Stepped W w' pe d sb mb sc wv N (runW N (putOps 0 (fun _ => t) 2) x) := by
  have HPUT := Lib.hid ((h.below (box_one W 9 #[.string t, .string t])).put 0 2 (fun _ => t) W.heap.size #[.string t, .string t] (Own.made _ _ _) (fun i hi => by rcases (by omega : i = 0 ∨ i = 1) with rfl | rfl <;> rfl) (fun i hi => ht) (by omega) (by omega) (by omega) hl)
  have B1 := Lib.hid (box_one W 9 #[.string t, .string t])
  obtain ⟨q1, q2, q3⟩ := h1.at_
  clear h h1
  unfold putV
  go_enter Tryz.func61, Tryz.ntmps61
  go_wp2_with fail
  refine HPUT.out.mono ?_
  rintro e w5 ⟨rfl, hS5⟩
  have hS6 := Lib.hid (Stepped.from_ hS5 B1.out)
  clear hS5
  go_wp2
  go_end0
  exact ⟨rfl, hS6.out⟩
end
end Go.Proofs.YtndhmidgnpobjaaGreatDoor
end
