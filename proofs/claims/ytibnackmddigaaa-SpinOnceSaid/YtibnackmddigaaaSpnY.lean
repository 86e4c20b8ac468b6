/- The walk of the law SpinOnce. No condition. -/
import Derived.Test.YtibnackmddigaaaRows
import Derived.Test.YtibnackmddigaaaWideA
import Derived.Test.YtibnackmddigaaaSpnX
import Derived.Test.YtibnackmddigaaaSpnJ
import Derived.Test.YtibnackmddigaaaSpnAct
import Derived.Test.YtibnackmddigaaaPlnH
import Derived.Test.YtibnackmddigaaaTree
import Derived.WalkKit
import Derived.ProofKit
import Derived.OpenShut
import Derived.ShutString
import Derived.ChangeOld
import Derived.Below
import Derived.SliceStrings
namespace Go.Proofs.Ytibnackmddigaaa.spinOnce
open Go.ChangeShapes Go.WideShapes Go.ChangeAt Go.RowKit
open Go.ChangeMaps (open_string shut_string)
set_option linter.unusedVariables false
set_option linter.unusedSimpArgs false

open Pl
set_option maxRecDepth 10000
set_option maxHeartbeats 40000000
theorem eq_Vx (a1 a2 a3 : Int) (w : World) : (Op.equalIn 10000 39 (.agg #[.int .i64 a1, .int .i64 a2, .int .i64 a3]) (.agg #[.int .i64 a1, .int .i64 a2, .int .i64 a3])).run Try.prog w = .ok true w := by
  have u3 := Try.underlying3
  have a3' := Try.isAgg3
  have z3 := Try.sizeOf3
  have a4 := Try.isAgg37
  have z4 := Try.sizeOf37
  rw [show (10000 : Nat) = 9999 + 1 from rfl, run_equalIn_struct w 9999 39 _ _ (by simp [Program.fieldsOf, Try.underlying39]) (by kernel_rfl)]
  simp only [Program.fieldsOf, Try.underlying39]
  simp [Op.eqFields, go_sem, part, u3, a3', z3, a4, z4]
theorem en_next {vs : List Vx} {es : List Eg} (hr : Rt vs es) {h : Hf} (hh : h ∈ hfs es) : enA vs es (nx vs es h) = enB vs es h := by
  have h2 := nx_mem (vs := vs) hh
  unfold enA enB
  rw [(pvs_yes hr).1, (pvs_yes hr).2, if_pos h2.1, if_pos hh, h2.2]
theorem many_le : ∀ L : List (List Hf), (∀ r ∈ L, 0 < r.length) → L.length ≤ L.flatten.length
  | [], _ => by simp
  | r :: L, h => by
    have := h r (List.mem_cons_self ..)
    have := many_le L fun s hs => h s (List.mem_cons_of_mem _ hs)
    simp only [List.length_cons, List.flatten_cons, List.length_append]
    omega
theorem take_flat {L : List (List Hf)} {k : Nat} (hk : k < L.length) : (L.take (k + 1)).flatten = (L.take k).flatten ++ L[k]'hk := by
  rw [List.take_add_one, List.getElem?_eq_getElem hk, Option.toList_some, List.flatten_append, List.flatten_cons, List.flatten_nil, List.append_nil]
def flat (L : List (List Hf)) : List Hf := L.flatten
theorem flat_nodup {L : List (List Hf)} (hn : L.flatten.Nodup) {k j : Nat} (hk : k < L.length) (hj : j < (L[k]'hk).length) : (L[k]'hk)[j]'hj ∉ (L.take k).flatten ++ (L[k]'hk).take j := by
  have e : L.flatten = (L.take (k + 1)).flatten ++ (L.drop (k + 1)).flatten := by rw [← List.flatten_append, List.take_append_drop]
  rw [e, take_flat hk, List.nodup_append] at hn
  have h1 := hn.1
  rw [List.nodup_append] at h1
  intro hm
  rcases List.mem_append.1 hm with hm | hm
  · exact h1.2.2 _ hm _ (List.getElem_mem hj) rfl
  · obtain ⟨i, hi, e⟩ := List.getElem_of_mem hm
    rw [List.length_take] at hi
    rw [List.getElem_take] at e
    have := nodup_same h1.2.1 (by omega) hj e
    omega
theorem flat_len {L : List (List Hf)} {k j : Nat} (hk : k < L.length) (hj : j < (L[k]'hk).length) : ((L.take k).flatten ++ (L[k]'hk).take j).length < L.flatten.length := by
  have e : L.flatten = (L.take (k + 1)).flatten ++ (L.drop (k + 1)).flatten := by rw [← List.flatten_append, List.take_append_drop]
  rw [e, take_flat hk]
  simp only [List.length_append, List.length_take]
  omega
theorem hds_lt {R : List (List Hf)} (h : R.Pairwise fun a b => lsH (hd a) (hd b) = true) {k : Nat} (hk : k + 1 < R.length) : lsH (hd (R[k]'(by omega))) (hd (R[k + 1]'hk)) = true := List.pairwise_iff_getElem.1 h k (k + 1) (by omega) hk (by omega)
theorem hOwn_zero {w : World} {B g n c : Nat} {L : List Hf} (h : HOwn w B (.slice (some ⟨g, 0, none⟩) n c) L) (hL : 0 < L.length) : w.cell? ⟨g, 0, none⟩ = some (.int .i64 (hd L).1) ∧ w.cell? ⟨g, 1, none⟩ = some (.bool (hd L).2) := by
  have := hOwn_cell h hL
  rw [hd_get hL]
  simpa using this
theorem pl_at {A : List (Value × List Hf)} {R : List (List Hf)} (ha : A.map (·.2) = R) {k : Nat} (h1 : k < A.length) (h2 : k < R.length) : (A[k]'h1).2 = R[k]'h2 := by
  have e1 : (A.map (·.2))[k]? = some (A[k]'h1).2 := by simp [List.getElem?_eq_getElem h1]
  rw [ha, List.getElem?_eq_getElem h2] at e1
  exact (Option.some.inj e1).symm

theorem own : ownKnob Try.prog.godebug = none := by kernel_rfl
theorem laidOut : laidOutB Try.prog = true := by kernel_rfl

theorem walk (v e : Value) (vs : List Pl.Vx) (es : List Pl.Eg) (w : World) (hv : Pl.VIn w v vs) (he : Pl.EIn w e es) :
    Calls Try.prog 4 #[.agg #[v, e]] w fun e w' => e = .returned (.bool true) ∧ Below w.heap.size w w' := by
  have FW := Lib.hid (fun (W : World) (hW : Below w.heap.size w W) => sfew_any (TIn.below hv hW) (TIn.below he hW))
  have PL := Lib.hid (fun (W : World) (hW : Below w.heap.size w W) => splain_any (TIn.below hv hW) (TIn.below he hW))
  have AW := Lib.hid sawake_any
  cases hf : fewS vs es with
  | false =>
    rw [hf] at FW
    obtain ⟨a, c, rfl⟩ := hv.sl
    obtain ⟨a', c', rfl⟩ := he.sl
    have BB := Lib.hid (bx1 w 25 #[.slice a vs.length c, .slice a' es.length c'])
    have PO := Lib.hid (Own.made w 25 #[.slice a vs.length c, .slice a' es.length c'])
    clear hf hv he PL
    generalize vs.length = n at *
    generalize es.length = m at *
    go_enter Try.func4, Try.ntmps4
    obtain ⟨p1, p2⟩ := half_at PO.out
    go_upto_region 2 with (first
      | (go_at_call 9; refine (FW.out _ B2.out).mono ?_; rintro e w3 ⟨rfl, b3⟩; have B3 := Lib.hid (then_ B2.out b3 B2.out.size); clear b3)
      | (go_at_call 8; refine (AW.out _).mono ?_; rintro e w2 ⟨rfl, b2⟩; have B2 := Lib.hid (then_ BB.out b2 BB.out.size); obtain ⟨p3, p4⟩ := half_at (PO.out.keep b2); clear b2))
    go_wp2_with (go_at_call 8; refine (AW.out _).mono ?_; rintro e w4 ⟨rfl, b4⟩; have B4 := Lib.hid (then_ B3.out b4 B3.out.size); clear b4)
    go_ret
    exact ⟨rfl, B4.out⟩
  | true =>
    obtain ⟨n40, m40⟩ := fewS_yes hf
    rw [hf] at FW
    have RG := Lib.hid (fun (W : World) (hW : Below w.heap.size w W) => rings_any (TIn.below hv hW) (TIn.below he hW) (by omega) (by omega))
    have RT := Lib.hid (fun (W : World) (hW : Below w.heap.size w W) => right_any (TIn.below hv hW) (TIn.below he hW) (by omega) (by omega))
    by_cases hr : Rt vs es
    · rw [rtB_iff.2 hr] at RT
      rw [(pvs_yes hr).1, (pvs_yes hr).2] at RG
      have hE := (rt_iff.1 hr).2
      obtain ⟨o1, o2, o3, o4, o5⟩ := rg_once hE
      have ND := Lib.hid o1
      have TL : Hid ((rg vs es).flatten.length = 2 * es.length) := Lib.hid o2
      have TD := Lib.hid o3
      have R1 := Lib.hid o4
      have AS := Lib.hid o5
      have LR : Hid ((rg vs es).length ≤ 80) := Lib.hid (by have := many_le _ fun r hx => (o4 r hx).ne; omega)
      have NX : Hid (∀ W, Below w.heap.size w W → ∀ h ∈ hfs es, Calls Try.prog 15 #[.agg #[v, e], hV h] W fun r w' => r = .returned (.tuple #[hV (nx vs es h), .bool true]) ∧ Below W.heap.size W w') := Lib.hid fun W hW h hh => by
        have := next_any (TIn.below hv hW) (TIn.below he hW) (by omega) (by omega) h
        unfold nxE at this
        rw [(pvs_yes hr).1, (pvs_yes hr).2, if_pos hh, decide_eq_true hh] at this
        exact this
      have EN : Hid (∀ W, Below w.heap.size w W → ∀ h ∈ hfs es, Calls Try.prog 16 #[.agg #[v, e], hV h] W fun r w' => r = .returned (.tuple #[.agg #[.int .i64 (enA vs es h).id, .int .i64 (enA vs es h).x, .int .i64 (enA vs es h).y], .agg #[.int .i64 (enB vs es h).id, .int .i64 (enB vs es h).x, .int .i64 (enB vs es h).y], .bool true]) ∧ Below W.heap.size W w') := Lib.hid fun W hW h hh => by
        have := ends_any (TIn.below hv hW) (TIn.below he hW) (by omega) (by omega) h
        rw [(pvs_yes hr).2, decide_eq_true hh] at this
        exact this
      have NM : Hid (∀ h ∈ hfs es, nx vs es h ∈ hfs es) := Lib.hid fun h hh => (nx_mem hh).1
      have EE : Hid (∀ h ∈ hfs es, enA vs es (nx vs es h) = enB vs es h) := Lib.hid fun h hh => en_next hr hh
      obtain ⟨a, c, rfl⟩ := hv.sl
      obtain ⟨a', c', rfl⟩ := he.sl
      have BB := Lib.hid (bx1 w 25 #[.slice a vs.length c, .slice a' es.length c'])
      have PO := Lib.hid (Own.made w 25 #[.slice a vs.length c, .slice a' es.length c'])
      clear hf hv he n40 hr hE o1 o2 o3 o4 o5
      generalize rg vs es = R at *
      generalize nx vs es = f at *
      generalize enA vs es = eA at *
      generalize enB vs es = eB at *
      generalize hfs es = D at *
      generalize vs.length = n0 at *
      generalize es.length = m0 at *
      go_enter Try.func4, Try.ntmps4
      obtain ⟨p1, p2⟩ := half_at PO.out
      go_upto_region 3 with (first
        | (go_at_call 9; refine (FW.out _ B1.out).mono ?_; rintro e w2 ⟨rfl, b2⟩; have B2 := Lib.hid (then_ B1.out b2 B1.out.size); have P2 := Lib.hid (P1.out.keep b2); clear b2)
        | (go_at_call 8; refine (AW.out _).mono ?_; rintro e w1 ⟨rfl, b1⟩; have B1 := Lib.hid (then_ BB.out b1 BB.out.size); have P1 := Lib.hid (PO.out.keep b1); obtain ⟨p3, p4⟩ := half_at P1.out; clear b1))
      clear p1 p2 p3 p4
      obtain ⟨p1, p2⟩ := half_at P2.out
      go_upto_region 4 with (first
        | (go_at_call 10; refine (RG.out _ B3.out).mono ?_; rintro e w4 ⟨u, LA, rfl, ra, ea, b4⟩; have HA := Lib.hid ra; have EA := Lib.hid ea; have B4 := Lib.hid (then_ B3.out b4 B3.out.size); have P4 := Lib.hid (P3.out.keep b4); clear ra ea b4)
        | (go_at_call 11; refine (PL.out _ B2.out).mono ?_; rintro e w3 ⟨rfl, b3⟩; have B3 := Lib.hid (then_ B2.out b3 B2.out.size); have P3 := Lib.hid (P2.out.keep b3); clear b3))
      clear p1 p2
      obtain ⟨aa, ca, hsh, -, -⟩ := HA.out.shape
      subst hsh
      have NA : Hid (LA.length = R.length) := Lib.hid (by have := congrArg List.length EA.out; simpa using this)
      obtain ⟨n, hn⟩ : ∃ n, n = R.length := ⟨_, rfl⟩
      rw [← hn] at NA LR
      have HN := Lib.hid hn
      rw [NA.out] at HA ⊢
      have hnb : n ≤ 80 := LR.out
      clear hn FW RG B1 B2 B3 P1 P2 P3 PO BB
      have FT : Hid (∀ W, Below w4.heap.size w4 W → RgAt W w3.heap.size (.slice aa n ca) LA ∧ Own W w.heap.size 25 #[.slice a n0 c, .slice a' m0 c']) := Lib.hid fun W hW => ⟨HA.out.below hW, P4.out.keep hW⟩
      clear HA P4
      go_upto_region 6 with fail
      go_loopw [4, 5] (fun mv j wr => ∃ k lm : Nat, k ≤ n ∧ j = .int .i64 (k : Int) ∧ Hid (∃ am cm, mv = .slice am lm cm) ∧ Hid (lm = (flat (R.take k)).length) ∧ Hid (HOwn wr w4.heap.size mv (flat (R.take k))) ∧ Hid (Below w4.heap.size w4 wr)) (fun mv j wr => n - (intOf j).toNat)
      case atStart => exact ⟨0, 0, by omega, rfl, Lib.hid ⟨none, 0, rfl⟩, Lib.hid rfl, Lib.hid (HOwn.nil _ _), Lib.hid (Below.refl _ _)⟩
      case round =>
        obtain ⟨k, lm, hk, rfl, HSM, HLM, HM, HW⟩ := hrel
        by_cases hlt : k < n
        · have hki : (k : Int) < (n : Int) := by omega
          have h1 : k < LA.length := by rw [NA.out]; exact hlt
          have h2 : k < R.length := by rw [← HN.out]; exact hlt
          obtain ⟨ga, ea, ha, c1, o1⟩ := (FT.out _ HW.out).1.cell h1
          obtain rfl : aa = some ⟨ga, 0, none⟩ := ea
          have CA : Hid (∀ W, Below w4.heap.size w4 W → W.cell? ⟨ga, k, none⟩ = some (LA[k]'h1).1 ∧ HOwn W w3.heap.size (LA[k]'h1).1 (LA[k]'h1).2) := Lib.hid fun W hW => by
            obtain ⟨ga', ea', ha', c1', o1'⟩ := (FT.out _ hW).1.cell h1
            obtain rfl : ga = ga' := by injection ea' with e; injection e
            exact ⟨c1', o1'⟩
          have NDK : Hid (∀ j (hj : j < (R[k]'h2).length), (R[k]'h2)[j]'hj ∉ flat (R.take k) ++ (R[k]'h2).take j) := Lib.hid fun j hj => flat_nodup ND.out h2 hj
          have LTK : Hid (∀ j, j < (R[k]'h2).length → (flat (R.take k) ++ (R[k]'h2).take j).length < 2 * m0) := Lib.hid fun j hj => by rw [← TL.out]; exact flat_len h2 hj
          have RK := Lib.hid (R1.out _ (List.getElem_mem h2))
          have DK : Hid (∀ x ∈ R[k]'h2, x ∈ D) := Lib.hid fun x hx => TD.out x (List.mem_flatten.2 ⟨_, List.getElem_mem h2, hx⟩)
          have NXT : Hid (flat (R.take (k + 1)) = flat (R.take k) ++ R[k]'h2) := Lib.hid (take_flat h2)
          have PRV : Hid (∀ (hk0 : 0 < k), lsH (hd (R[k - 1]'(by omega))) (hd (R[k]'h2)) = true) := Lib.hid fun hk0 => by
            have := hds_lt AS.out (k := k - 1) (by omega)
            simpa only [Nat.sub_add_cancel hk0] using this
          have EK := Lib.hid (pl_at EA.out h1 h2)
          obtain ⟨xa, hxa⟩ : ∃ xa, xa = LA[k]'h1 := ⟨_, rfl⟩
          rw [← hxa] at c1 o1 CA EK
          clear hxa
          obtain ⟨va, r⟩ := xa
          simp only at c1 o1 CA EK
          obtain ⟨r0, hr0⟩ : ∃ r0, r0 = R[k]'h2 := ⟨_, rfl⟩
          rw [← hr0] at NDK LTK RK DK NXT PRV EK
          have HR0 := Lib.hid hr0
          clear hr0
          obtain rfl : r = r0 := EK.out
          obtain ⟨gr, cr, hsl, -, -, -, -⟩ := hOwn_cells o1 RK.out.ne
          subst hsl
          obtain ⟨l, hl⟩ : ∃ l, l = r.length := ⟨_, rfl⟩
          have HL := Lib.hid hl
          have hl0 : 0 < l := by rw [hl]; exact RK.out.ne
          rw [← hl] at CA c1
          clear hl o1
          obtain ⟨am, cm, hsh⟩ := HSM.out
          subst hsh
          obtain ⟨M0, hM0⟩ : ∃ M0, M0 = flat (R.take k) := ⟨_, rfl⟩
          rw [← hM0] at NDK LTK NXT HM HLM
          clear hM0
          have HM0 : Hid (HOwn wr w4.heap.size (.slice am lm cm) (M0 ++ r.take 0)) := Lib.hid (by rw [List.take_zero, List.append_nil]; exact HM.out)
          have LM0 : Hid (lm = (M0 ++ r.take 0).length) := Lib.hid (by rw [List.take_zero, List.append_nil]; exact HLM.out)
          have h0l : Hid (l ≤ 80) := Lib.hid (by
            have := LTK.out (l - 1) (by rw [← HL.out]; omega)
            rw [List.length_append, List.length_take, ← HL.out] at this
            omega)
          clear HM HSM HLM
          have hlb : l ≤ 80 := h0l.out
          go_upto_region 9 with fail
          go_loopw [4, 6] (fun mv j wq => ∃ q lm : Nat, q ≤ l ∧ j = .int .i64 (q : Int) ∧ Hid (∃ am cm, mv = .slice am lm cm) ∧ Hid (lm = (M0 ++ r.take q).length) ∧ Hid (HOwn wq w4.heap.size mv (M0 ++ r.take q)) ∧ Hid (Below w4.heap.size w4 wq)) (fun mv j wq => l - (intOf j).toNat)
          case atStart => exact ⟨0, lm, by omega, rfl, Lib.hid ⟨_, _, rfl⟩, LM0, HM0, HW⟩
          case round =>
            clear HM0 LM0 HW c1
            obtain ⟨q, lm2, hq, rfl, HSM, HLM, HM, HW⟩ := hrel
            obtain ⟨c1, o1⟩ := CA.out _ HW.out
            by_cases hlq : q < l
            · have hqi : (q : Int) < (l : Int) := by omega
              have hqr : q < r.length := by rw [← HL.out]; exact hlq
              obtain ⟨y1, y2⟩ := hOwn_cell o1 hqr
              clear o1
              obtain ⟨am, cm, hsh⟩ := HSM.out
              subst hsh
              clear HSM
              have NIN := Lib.hid (NDK.out q hqr)
              have LIN := Lib.hid (LTK.out q hqr)
              have HD : Hid (r[q]'hqr ∈ D) := Lib.hid (DK.out _ (List.getElem_mem hqr))
              have LOW := Lib.hid (RK.out.low _ (List.getElem_mem hqr))
              have TS : Hid (r.take (q + 1) = r.take q ++ [r[q]'hqr]) := Lib.hid (by rw [List.take_add_one, List.getElem?_eq_getElem hqr]; rfl)
              obtain ⟨m, hm⟩ : ∃ m, m = (q + 1) % r.length := ⟨_, rfl⟩
              have hmr : m < r.length := by rw [hm]; exact Nat.mod_lt _ RK.out.ne
              have hmi : (m : Int) < (l : Int) := by rw [HL.out]; omega
              have MD : Hid (m = (q + 1) % l) := Lib.hid (by rw [hm, HL.out])
              have NXR : Hid (f (r[q]'hqr) = r[m]'hmr) := Lib.hid (by have := RK.out.nxt q hqr; simpa only [← hm] using this)
              have CM : Hid (∀ W, Below w4.heap.size w4 W → W.cell? ⟨gr, m * 2, none⟩ = some (.int .i64 (r[m]'hmr).1) ∧ W.cell? ⟨gr, m * 2 + 1, none⟩ = some (.bool (r[m]'hmr).2) ∧ W.cell? ⟨gr, 0, none⟩ = some (.int .i64 (hd r).1) ∧ W.cell? ⟨gr, 1, none⟩ = some (.bool (hd r).2) ∧ W.cell? ⟨ga, k, none⟩ = some (.slice (some ⟨gr, 0, none⟩) l cr)) := Lib.hid fun W hW => by
                obtain ⟨d1, d2⟩ := CA.out W hW
                obtain ⟨e1, e2⟩ := hOwn_cell d2 hmr
                obtain ⟨e3, e4⟩ := hOwn_zero d2 RK.out.ne
                exact ⟨e1, e2, e3, e4, d1⟩
              rw [← NXR.out] at CM
              clear hm
              obtain ⟨x, hx⟩ : ∃ x, x = r[q]'hqr := ⟨_, rfl⟩
              rw [← hx] at y1 y2 NIN HD NXR LOW TS CM
              clear hx NXR
              have HD2 := Lib.hid (NM.out _ HD.out)
              have EEX := Lib.hid (EE.out _ HD.out)
              have NXX := Lib.hid (fun W hW => NX.out W hW _ HD.out)
              have ENX := Lib.hid (fun W hW => EN.out W hW _ HD.out)
              have ENY := Lib.hid (fun W hW => EN.out W hW _ HD2.out)
              rw [EEX.out] at ENY
              obtain ⟨z, hz⟩ : ∃ z, z = f x := ⟨_, rfl⟩
              rw [← hz] at NXX ENY CM
              clear hz HD HD2 EEX
              generalize eA x = A0 at *
              generalize eB x = B0 at *
              generalize eB z = C0 at *
              obtain ⟨a1, a2, a3⟩ := A0
              obtain ⟨b1, b2, b3⟩ := B0
              obtain ⟨d1, d2, d3⟩ := C0
              obtain ⟨h0, hh0⟩ : ∃ h0, h0 = hd r := ⟨_, rfl⟩
              rw [← hh0] at CM LOW
              clear hh0
              have LWH := Lib.hid (fun W => less_any x h0 W)
              rw [LOW.out] at LWH
              obtain ⟨he, hb⟩ := x
              obtain ⟨ne, nb⟩ := z
              obtain ⟨h0e, h0b⟩ := h0
              unfold hV at NXX ENX ENY LWH
              simp only at y1 y2 NXX ENX ENY LWH CM
              have HMM := Lib.hid (fun W (hW : Below wr.heap.size wr W) => rhas_any (HM.out.below hW).in_ (he, hb) (by have := LIN.out; omega))
              rw [decide_eq_false NIN.out] at HMM
              unfold hV at HMM
              simp only at HMM
              have HM9 : Hid (∀ W, Below wr.heap.size wr W → HOwn W w4.heap.size (.slice am lm2 cm) (M0 ++ r.take q)) := Lib.hid fun W hW => HM.out.below hW
              obtain ⟨g7, hg7⟩ : ∃ g7, g7 = wr.heap.size := ⟨_, rfl⟩
              obtain ⟨W7, hW7⟩ : ∃ W7, W7 = wr.alloc (.cells #[.int .i64 he, .bool hb] 42) := ⟨_, rfl⟩
              have BX : Hid (Below wr.heap.size wr W7) := Lib.hid (by rw [hW7]; exact bx1 _ _ _)
              have Q7 : Hid (Own W7 g7 42 #[.int .i64 he, .bool hb]) := Lib.hid (by rw [hW7, hg7]; exact Own.made _ _ _)
              go_upto_region 12 with fail
              rw [← hW7, ← hg7]
              clear hW7 hg7 y1 y2 c1
              have B7 := Lib.hid (then_ HW.out BX.out HW.out.size)
              have P7 : Hid (Own W7 w.heap.size 25 #[.slice a n0 c, .slice a' m0 c']) := Lib.hid (FT.out _ B7.out).2
              have BW7 := Lib.hid (then_ B4.out B7.out B4.out.size)
              have SF : Hid (∀ W, Below W7.heap.size W7 W → Own W w.heap.size 25 #[.slice a n0 c, .slice a' m0 c'] ∧ Own W g7 42 #[.int .i64 he, .bool hb]) := Lib.hid fun W hW => ⟨P7.out.keep hW, Q7.out.keep hW⟩
              have B1 : Hid (Below W7.heap.size W7 W7.drew) := Lib.hid (Below.refl _ _).drew
              go_cut [8, 9] (fun s8 s9 wx => ∃ g, s8 = .pointer (some ⟨g, 0, none⟩) ∧ s9 = .bool true ∧ Hid (Own wx g 42 #[.int .i64 ne, .bool nb]) ∧ Hid (Below W7.heap.size W7 wx))
              case first =>
                as_aux_lemma =>
                  go_upto_region 12 with fail
                  refine wp_region_tree (fun W => Own W w.heap.size 25 #[.slice a n0 c, .slice a' m0 c'] ∧ Own W g7 42 #[.int .i64 he, .bool hb]) [0, 2, 4, 5, 6, 9] [0, 2] 10 (by kernel_rfl) rfl ?_
                  generalize hD_ : W7.drew = Wd0 at B1 ⊢
                  clear hD_
                  refine tree_pure (i := 0) (v := ?_) rfl rfl (by kernel_rfl) (by kernel_rfl) (by kernel_rfl) rfl (fun W hS => ?_) (SF.out _ B1.out) ?_
                  rotate_left
                  · have hS := hS rfl
                    obtain ⟨hp1, hp2⟩ := hS
                    obtain ⟨u1, u2⟩ := half_at hp1
                    obtain ⟨u3, u4⟩ := half_at hp2
                    conv => lhs; simp [go_sem, *]
                    first | done | exact rfl
                  simp only [Act.put, List.getElem_toArray, List.getElem_cons_zero, List.getElem_cons_succ, List.setIfInBounds_toArray, List.set_cons_zero, List.set_cons_succ]
                  refine tree_pure (i := 2) (v := ?_) rfl rfl (by kernel_rfl) (by kernel_rfl) (by kernel_rfl) rfl (fun W hS => ?_) (SF.out _ B1.out) ?_
                  rotate_left
                  · have hS := hS rfl
                    obtain ⟨hp1, hp2⟩ := hS
                    obtain ⟨u1, u2⟩ := half_at hp1
                    obtain ⟨u3, u4⟩ := half_at hp2
                    conv => lhs; simp [go_sem, *]
                    first | done | exact rfl
                  simp only [Act.put, List.getElem_toArray, List.getElem_cons_zero, List.getElem_cons_succ, List.setIfInBounds_toArray, List.set_cons_zero, List.set_cons_succ]
                  refine tree_two (i := 1) (k := 7) (by kernel_rfl) rfl rfl ?_ ?_
                  · refine ⟨_, rfl, fun K hK => ?_⟩
                    go_wp2_with (go_at_call 11; refine (PL.out _ (then_ BW7.out B1.out BW7.out.size)).mono ?_; rintro e wt1 ⟨rfl, bt1⟩; replace bt1 := Lib.hid bt1)
                    replace B1 := Lib.hid (then_ B1.out bt1.out B1.out.size)
                    refine hK _ _ (SF.out _ B1.out) ?_
                    clear hK K
                    refine tree_two (i := 3) (k := 7) (by kernel_rfl) rfl rfl ?_ ?_
                    · refine ⟨_, rfl, fun K hK => ?_⟩
                      go_wp2_with (go_at_call 15; refine (NXX.out _ (then_ BW7.out B1.out BW7.out.size)).mono ?_; rintro e wt2 ⟨rfl, bt2⟩; replace bt2 := Lib.hid bt2)
                      replace B1 := Lib.hid (then_ B1.out bt2.out B1.out.size)
                      refine hK _ _ (SF.out _ B1.out) ?_
                      clear hK K
                      refine tree_pure (i := 4) (v := ?_) rfl rfl (by kernel_rfl) (by kernel_rfl) (by kernel_rfl) rfl (fun W hS => ?_) (SF.out _ B1.out) ?_
                      rotate_left
                      · conv => lhs; simp [go_sem]
                        first | done | exact rfl
                      simp only [Act.put, List.getElem_toArray, List.getElem_cons_zero, List.getElem_cons_succ, List.setIfInBounds_toArray, List.set_cons_zero, List.set_cons_succ]
                      refine tree_pure (i := 5) (v := ?_) rfl rfl (by kernel_rfl) (by kernel_rfl) (by kernel_rfl) rfl (fun W hS => ?_) (SF.out _ B1.out) ?_
                      rotate_left
                      · conv => lhs; simp [go_sem]
                        first | done | exact rfl
                      simp only [Act.put, List.getElem_toArray, List.getElem_cons_zero, List.getElem_cons_succ, List.setIfInBounds_toArray, List.set_cons_zero, List.set_cons_succ]
                      refine tree_pure (i := 6) (v := ?_) rfl rfl (by kernel_rfl) (by kernel_rfl) (by kernel_rfl) rfl (fun W hS => ?_) (SF.out _ B1.out) ?_
                      rotate_left
                      · conv => lhs; simp [go_sem]
                        first | done | exact rfl
                      simp only [Act.put, List.getElem_toArray, List.getElem_cons_zero, List.getElem_cons_succ, List.setIfInBounds_toArray, List.set_cons_zero, List.set_cons_succ]
                      refine tree_one (i := 7) (by kernel_rfl) rfl ?_
                      · refine ⟨_, rfl, fun K hK => ?_⟩
                        go_wp2
                        obtain ⟨wt3, hW⟩ : ∃ X, X = World.alloc wt2 (.cells #[.int .i64 0, .bool false] 42) := ⟨_, rfl⟩
                        have bt3 : Hid (Below (wt2).heap.size (wt2) wt3) := Lib.hid (by rw [hW]; exact bx1 _ _ _)
                        have t5_ : Hid (Own wt3 (wt2).heap.size 42 #[.int .i64 0, .bool false]) := Lib.hid (by rw [hW]; exact Own.made _ _ _)
                        have t5_lo : Hid (W7.heap.size ≤ (wt2).heap.size) := Lib.hid B1.out.size
                        replace B1 := Lib.hid (then_ B1.out bt3.out B1.out.size)
                        rw [← hW]
                        obtain ⟨gb_t5, hg_t5⟩ : ∃ g, g = (wt2).heap.size := ⟨_, rfl⟩
                        rw [← hg_t5] at t5_ t5_lo  ⊢
                        clear hW hg_t5
                        have t5 := t5_
                        refine hK _ _ (SF.out _ B1.out) ?_
                        clear hK K
                        refine tree_one (i := 8) (by kernel_rfl) rfl ?_
                        · refine ⟨_, rfl, fun K hK => ?_⟩
                          obtain ⟨fz1, fz2, fz3⟩ := t5.out.at_
                          go_wp2
                          clear fz1 fz2 fz3
                          have t5_f : Hid (Own (World.setCell (World.setCell wt3 ⟨gb_t5, 0, none⟩ (.int .i64 ne)) ⟨gb_t5, 1, none⟩ (.bool nb)) gb_t5 42 #[.int .i64 ne, .bool nb]) := Lib.hid (((t5.out.put 0 _).put 1 _).as (by simp))
                          have BF_ : Hid (Below W7.heap.size W7 (World.setCell (World.setCell wt3 ⟨gb_t5, 0, none⟩ (.int .i64 ne)) ⟨gb_t5, 1, none⟩ (.bool nb))) := Lib.hid (Below.setCell (Below.setCell B1.out (p := ⟨gb_t5, 0, none⟩) (t5_lo.out) _) (p := ⟨gb_t5, 1, none⟩) (t5_lo.out) _)
                          generalize hWF_ : (World.setCell (World.setCell wt3 ⟨gb_t5, 0, none⟩ (.int .i64 ne)) ⟨gb_t5, 1, none⟩ (.bool nb)) = wt4 at t5_f BF_ ⊢
                          clear hWF_
                          have BF := BF_
                          refine hK _ _ (SF.out _ BF.out) ?_
                          clear hK K
                          refine tree_pure (i := 9) (v := ?_) rfl rfl (by kernel_rfl) (by kernel_rfl) (by kernel_rfl) rfl (fun W hS => ?_) (SF.out _ BF.out) ?_
                          rotate_left
                          · conv => lhs; simp [go_sem]
                            first | done | exact rfl
                          simp only [Act.put, List.getElem_toArray, List.getElem_cons_zero, List.getElem_cons_succ, List.setIfInBounds_toArray, List.set_cons_zero, List.set_cons_succ]
                          refine tree_end (by kernel_rfl) ?_
                          go_wp2_with fail
                          go_meet
                          exact ⟨_, rfl, rfl, t5_f, BF⟩
                    · refine ⟨_, rfl, fun K hK => ?_⟩
                      go_wp2
                      obtain ⟨wt5, hW⟩ : ∃ X, X = World.alloc wt1 (.cells #[.int .i64 0, .bool false] 42) := ⟨_, rfl⟩
                      have bt5 : Hid (Below (wt1).heap.size (wt1) wt5) := Lib.hid (by rw [hW]; exact bx1 _ _ _)
                      have t5_ : Hid (Own wt5 (wt1).heap.size 42 #[.int .i64 0, .bool false]) := Lib.hid (by rw [hW]; exact Own.made _ _ _)
                      have t5_lo : Hid (W7.heap.size ≤ (wt1).heap.size) := Lib.hid B1.out.size
                      replace B1 := Lib.hid (then_ B1.out bt5.out B1.out.size)
                      rw [← hW]
                      obtain ⟨gb_t5, hg_t5⟩ : ∃ g, g = (wt1).heap.size := ⟨_, rfl⟩
                      rw [← hg_t5] at t5_ t5_lo  ⊢
                      clear hW hg_t5
                      have t5 := t5_
                      refine hK _ _ (SF.out _ B1.out) ?_
                      clear hK K
                      refine tree_one (i := 3) (by kernel_rfl) rfl ?_
                      · refine ⟨_, rfl, fun K hK => ?_⟩
                        go_wp2_with (go_at_call 15; refine (NXX.out _ (then_ BW7.out B1.out BW7.out.size)).mono ?_; rintro e wt6 ⟨rfl, bt6⟩; replace bt6 := Lib.hid bt6)
                        replace B1 := Lib.hid (then_ B1.out bt6.out B1.out.size)
                        replace t5 := Lib.hid (t5.out.keep bt6.out)
                        refine hK _ _ (SF.out _ B1.out) ?_
                        clear hK K
                        refine tree_pure (i := 4) (v := ?_) rfl rfl (by kernel_rfl) (by kernel_rfl) (by kernel_rfl) rfl (fun W hS => ?_) (SF.out _ B1.out) ?_
                        rotate_left
                        · conv => lhs; simp [go_sem]
                          first | done | exact rfl
                        simp only [Act.put, List.getElem_toArray, List.getElem_cons_zero, List.getElem_cons_succ, List.setIfInBounds_toArray, List.set_cons_zero, List.set_cons_succ]
                        refine tree_pure (i := 5) (v := ?_) rfl rfl (by kernel_rfl) (by kernel_rfl) (by kernel_rfl) rfl (fun W hS => ?_) (SF.out _ B1.out) ?_
                        rotate_left
                        · conv => lhs; simp [go_sem]
                          first | done | exact rfl
                        simp only [Act.put, List.getElem_toArray, List.getElem_cons_zero, List.getElem_cons_succ, List.setIfInBounds_toArray, List.set_cons_zero, List.set_cons_succ]
                        refine tree_pure (i := 6) (v := ?_) rfl rfl (by kernel_rfl) (by kernel_rfl) (by kernel_rfl) rfl (fun W hS => ?_) (SF.out _ B1.out) ?_
                        rotate_left
                        · conv => lhs; simp [go_sem]
                          first | done | exact rfl
                        simp only [Act.put, List.getElem_toArray, List.getElem_cons_zero, List.getElem_cons_succ, List.setIfInBounds_toArray, List.set_cons_zero, List.set_cons_succ]
                        refine tree_one (i := 8) (by kernel_rfl) rfl ?_
                        · refine ⟨_, rfl, fun K hK => ?_⟩
                          obtain ⟨fz1, fz2, fz3⟩ := t5.out.at_
                          go_wp2
                          clear fz1 fz2 fz3
                          have t5_f : Hid (Own (World.setCell (World.setCell wt6 ⟨gb_t5, 0, none⟩ (.int .i64 ne)) ⟨gb_t5, 1, none⟩ (.bool nb)) gb_t5 42 #[.int .i64 ne, .bool nb]) := Lib.hid (((t5.out.put 0 _).put 1 _).as (by simp))
                          have BF_ : Hid (Below W7.heap.size W7 (World.setCell (World.setCell wt6 ⟨gb_t5, 0, none⟩ (.int .i64 ne)) ⟨gb_t5, 1, none⟩ (.bool nb))) := Lib.hid (Below.setCell (Below.setCell B1.out (p := ⟨gb_t5, 0, none⟩) (t5_lo.out) _) (p := ⟨gb_t5, 1, none⟩) (t5_lo.out) _)
                          generalize hWF_ : (World.setCell (World.setCell wt6 ⟨gb_t5, 0, none⟩ (.int .i64 ne)) ⟨gb_t5, 1, none⟩ (.bool nb)) = wt7 at t5_f BF_ ⊢
                          clear hWF_
                          have BF := BF_
                          refine hK _ _ (SF.out _ BF.out) ?_
                          clear hK K
                          refine tree_pure (i := 9) (v := ?_) rfl rfl (by kernel_rfl) (by kernel_rfl) (by kernel_rfl) rfl (fun W hS => ?_) (SF.out _ BF.out) ?_
                          rotate_left
                          · conv => lhs; simp [go_sem]
                            first | done | exact rfl
                          simp only [Act.put, List.getElem_toArray, List.getElem_cons_zero, List.getElem_cons_succ, List.setIfInBounds_toArray, List.set_cons_zero, List.set_cons_succ]
                          refine tree_end (by kernel_rfl) ?_
                          go_wp2_with fail
                          go_meet
                          exact ⟨_, rfl, rfl, t5_f, BF⟩
                  · refine ⟨_, rfl, fun K hK => ?_⟩
                    go_wp2
                    obtain ⟨wt8, hW⟩ : ∃ X, X = World.alloc Wd0 (.cells #[.int .i64 0, .bool false] 42) := ⟨_, rfl⟩
                    have bt8 : Hid (Below (Wd0).heap.size (Wd0) wt8) := Lib.hid (by rw [hW]; exact bx1 _ _ _)
                    have t5_ : Hid (Own wt8 (Wd0).heap.size 42 #[.int .i64 0, .bool false]) := Lib.hid (by rw [hW]; exact Own.made _ _ _)
                    have t5_lo : Hid (W7.heap.size ≤ (Wd0).heap.size) := Lib.hid B1.out.size
                    replace B1 := Lib.hid (then_ B1.out bt8.out B1.out.size)
                    rw [← hW]
                    obtain ⟨gb_t5, hg_t5⟩ : ∃ g, g = (Wd0).heap.size := ⟨_, rfl⟩
                    rw [← hg_t5] at t5_ t5_lo  ⊢
                    clear hW hg_t5
                    have t5 := t5_
                    refine hK _ _ (SF.out _ B1.out) ?_
                    clear hK K
                    refine tree_one (i := 1) (by kernel_rfl) rfl ?_
                    · refine ⟨_, rfl, fun K hK => ?_⟩
                      go_wp2_with (go_at_call 11; refine (PL.out _ (then_ BW7.out B1.out BW7.out.size)).mono ?_; rintro e wt9 ⟨rfl, bt9⟩; replace bt9 := Lib.hid bt9)
                      replace B1 := Lib.hid (then_ B1.out bt9.out B1.out.size)
                      replace t5 := Lib.hid (t5.out.keep bt9.out)
                      refine hK _ _ (SF.out _ B1.out) ?_
                      clear hK K
                      refine tree_one (i := 3) (by kernel_rfl) rfl ?_
                      · refine ⟨_, rfl, fun K hK => ?_⟩
                        go_wp2_with (go_at_call 15; refine (NXX.out _ (then_ BW7.out B1.out BW7.out.size)).mono ?_; rintro e wt10 ⟨rfl, bt10⟩; replace bt10 := Lib.hid bt10)
                        replace B1 := Lib.hid (then_ B1.out bt10.out B1.out.size)
                        replace t5 := Lib.hid (t5.out.keep bt10.out)
                        refine hK _ _ (SF.out _ B1.out) ?_
                        clear hK K
                        refine tree_pure (i := 4) (v := ?_) rfl rfl (by kernel_rfl) (by kernel_rfl) (by kernel_rfl) rfl (fun W hS => ?_) (SF.out _ B1.out) ?_
                        rotate_left
                        · conv => lhs; simp [go_sem]
                          first | done | exact rfl
                        simp only [Act.put, List.getElem_toArray, List.getElem_cons_zero, List.getElem_cons_succ, List.setIfInBounds_toArray, List.set_cons_zero, List.set_cons_succ]
                        refine tree_pure (i := 5) (v := ?_) rfl rfl (by kernel_rfl) (by kernel_rfl) (by kernel_rfl) rfl (fun W hS => ?_) (SF.out _ B1.out) ?_
                        rotate_left
                        · conv => lhs; simp [go_sem]
                          first | done | exact rfl
                        simp only [Act.put, List.getElem_toArray, List.getElem_cons_zero, List.getElem_cons_succ, List.setIfInBounds_toArray, List.set_cons_zero, List.set_cons_succ]
                        refine tree_pure (i := 6) (v := ?_) rfl rfl (by kernel_rfl) (by kernel_rfl) (by kernel_rfl) rfl (fun W hS => ?_) (SF.out _ B1.out) ?_
                        rotate_left
                        · conv => lhs; simp [go_sem]
                          first | done | exact rfl
                        simp only [Act.put, List.getElem_toArray, List.getElem_cons_zero, List.getElem_cons_succ, List.setIfInBounds_toArray, List.set_cons_zero, List.set_cons_succ]
                        refine tree_one (i := 8) (by kernel_rfl) rfl ?_
                        · refine ⟨_, rfl, fun K hK => ?_⟩
                          obtain ⟨fz1, fz2, fz3⟩ := t5.out.at_
                          go_wp2
                          clear fz1 fz2 fz3
                          have t5_f : Hid (Own (World.setCell (World.setCell wt10 ⟨gb_t5, 0, none⟩ (.int .i64 ne)) ⟨gb_t5, 1, none⟩ (.bool nb)) gb_t5 42 #[.int .i64 ne, .bool nb]) := Lib.hid (((t5.out.put 0 _).put 1 _).as (by simp))
                          have BF_ : Hid (Below W7.heap.size W7 (World.setCell (World.setCell wt10 ⟨gb_t5, 0, none⟩ (.int .i64 ne)) ⟨gb_t5, 1, none⟩ (.bool nb))) := Lib.hid (Below.setCell (Below.setCell B1.out (p := ⟨gb_t5, 0, none⟩) (t5_lo.out) _) (p := ⟨gb_t5, 1, none⟩) (t5_lo.out) _)
                          generalize hWF_ : (World.setCell (World.setCell wt10 ⟨gb_t5, 0, none⟩ (.int .i64 ne)) ⟨gb_t5, 1, none⟩ (.bool nb)) = wt11 at t5_f BF_ ⊢
                          clear hWF_
                          have BF := BF_
                          refine hK _ _ (SF.out _ BF.out) ?_
                          clear hK K
                          refine tree_pure (i := 9) (v := ?_) rfl rfl (by kernel_rfl) (by kernel_rfl) (by kernel_rfl) rfl (fun W hS => ?_) (SF.out _ BF.out) ?_
                          rotate_left
                          · conv => lhs; simp [go_sem]
                            first | done | exact rfl
                          simp only [Act.put, List.getElem_toArray, List.getElem_cons_zero, List.getElem_cons_succ, List.setIfInBounds_toArray, List.set_cons_zero, List.set_cons_succ]
                          refine tree_end (by kernel_rfl) ?_
                          go_wp2_with fail
                          go_meet
                          exact ⟨_, rfl, rfl, t5_f, BF⟩
              case rest =>
                obtain ⟨g8, rfl, rfl, F8, BF8⟩ := hcut
                have B8 := Lib.hid (then_ B7.out BF8.out B7.out.size)
                have BQ8 := Lib.hid (then_ BX.out BF8.out BX.out.size)
                have BW8 := Lib.hid (then_ B4.out B8.out B4.out.size)
                have P8 := Lib.hid (P7.out.keep BF8.out)
                have Q8 := Lib.hid (Q7.out.keep BF8.out)
                clear SF B1 P7 Q7 BF8 NXX B7 BX BW7
                obtain ⟨W8, hW8⟩ : ∃ W8, W8 = wc := ⟨_, rfl⟩
                rw [← hW8] at F8 B8 BQ8 BW8 P8 Q8
                go_upto_region 13 with fail
                rw [← hW8]
                clear hW8
                have SF : Hid (∀ W, Below W8.heap.size W8 W → Own W w.heap.size 25 #[.slice a n0 c, .slice a' m0 c'] ∧ Own W g7 42 #[.int .i64 he, .bool hb]) := Lib.hid fun W hW => ⟨P8.out.keep hW, Q8.out.keep hW⟩
                have B1 : Hid (Below W8.heap.size W8 W8.drew) := Lib.hid (Below.refl _ _).drew
                go_cut [10, 11, 12] (fun s7 s8 s9 wx => ∃ g10 g11, s7 = .pointer (some ⟨g10, 0, none⟩) ∧ s8 = .pointer (some ⟨g11, 0, none⟩) ∧ s9 = .bool true ∧ Hid (Own wx g11 39 #[.int .i64 b1, .int .i64 b2, .int .i64 b3]) ∧ Hid (Below W8.heap.size W8 wx))
                case first =>
                  as_aux_lemma =>
                    go_upto_region 13 with fail
                    refine wp_region_tree (fun W => Own W w.heap.size 25 #[.slice a n0 c, .slice a' m0 c'] ∧ Own W g7 42 #[.int .i64 he, .bool hb]) [0, 2, 4, 5, 6, 7, 12] [0, 2] 13 (by kernel_rfl) rfl ?_
                    generalize hD_ : W8.drew = Wd0 at B1 ⊢
                    clear hD_
                    refine tree_pure (i := 0) (v := ?_) rfl rfl (by kernel_rfl) (by kernel_rfl) (by kernel_rfl) rfl (fun W hS => ?_) (SF.out _ B1.out) ?_
                    rotate_left
                    · have hS := hS rfl
                      obtain ⟨hp1, hp2⟩ := hS
                      obtain ⟨u1, u2⟩ := half_at hp1
                      obtain ⟨u3, u4⟩ := half_at hp2
                      conv => lhs; simp [go_sem, *]
                      first | done | exact rfl
                    simp only [Act.put, List.getElem_toArray, List.getElem_cons_zero, List.getElem_cons_succ, List.setIfInBounds_toArray, List.set_cons_zero, List.set_cons_succ]
                    refine tree_pure (i := 2) (v := ?_) rfl rfl (by kernel_rfl) (by kernel_rfl) (by kernel_rfl) rfl (fun W hS => ?_) (SF.out _ B1.out) ?_
                    rotate_left
                    · have hS := hS rfl
                      obtain ⟨hp1, hp2⟩ := hS
                      obtain ⟨u1, u2⟩ := half_at hp1
                      obtain ⟨u3, u4⟩ := half_at hp2
                      conv => lhs; simp [go_sem, *]
                      first | done | exact rfl
                    simp only [Act.put, List.getElem_toArray, List.getElem_cons_zero, List.getElem_cons_succ, List.setIfInBounds_toArray, List.set_cons_zero, List.set_cons_succ]
                    refine tree_three (i := 1) (k := 8) (m := 9) (by kernel_rfl) rfl rfl rfl ?_ ?_ ?_
                    · refine ⟨_, rfl, fun K hK => ?_⟩
                      go_wp2_with (go_at_call 11; refine (PL.out _ (then_ BW8.out B1.out BW8.out.size)).mono ?_; rintro e wt1 ⟨rfl, bt1⟩; replace bt1 := Lib.hid bt1)
                      replace B1 := Lib.hid (then_ B1.out bt1.out B1.out.size)
                      refine hK _ _ (SF.out _ B1.out) ?_
                      clear hK K
                      refine tree_three (i := 3) (k := 8) (m := 9) (by kernel_rfl) rfl rfl rfl ?_ ?_ ?_
                      · refine ⟨_, rfl, fun K hK => ?_⟩
                        go_wp2_with (go_at_call 16; refine (ENX.out _ (then_ BW8.out B1.out BW8.out.size)).mono ?_; rintro e wt2 ⟨rfl, bt2⟩; replace bt2 := Lib.hid bt2)
                        replace B1 := Lib.hid (then_ B1.out bt2.out B1.out.size)
                        refine hK _ _ (SF.out _ B1.out) ?_
                        clear hK K
                        refine tree_pure (i := 4) (v := ?_) rfl rfl (by kernel_rfl) (by kernel_rfl) (by kernel_rfl) rfl (fun W hS => ?_) (SF.out _ B1.out) ?_
                        rotate_left
                        · conv => lhs; simp [go_sem]
                          first | done | exact rfl
                        simp only [Act.put, List.getElem_toArray, List.getElem_cons_zero, List.getElem_cons_succ, List.setIfInBounds_toArray, List.set_cons_zero, List.set_cons_succ]
                        refine tree_pure (i := 5) (v := ?_) rfl rfl (by kernel_rfl) (by kernel_rfl) (by kernel_rfl) rfl (fun W hS => ?_) (SF.out _ B1.out) ?_
                        rotate_left
                        · conv => lhs; simp [go_sem]
                          first | done | exact rfl
                        simp only [Act.put, List.getElem_toArray, List.getElem_cons_zero, List.getElem_cons_succ, List.setIfInBounds_toArray, List.set_cons_zero, List.set_cons_succ]
                        refine tree_pure (i := 6) (v := ?_) rfl rfl (by kernel_rfl) (by kernel_rfl) (by kernel_rfl) rfl (fun W hS => ?_) (SF.out _ B1.out) ?_
                        rotate_left
                        · conv => lhs; simp [go_sem]
                          first | done | exact rfl
                        simp only [Act.put, List.getElem_toArray, List.getElem_cons_zero, List.getElem_cons_succ, List.setIfInBounds_toArray, List.set_cons_zero, List.set_cons_succ]
                        refine tree_pure (i := 7) (v := ?_) rfl rfl (by kernel_rfl) (by kernel_rfl) (by kernel_rfl) rfl (fun W hS => ?_) (SF.out _ B1.out) ?_
                        rotate_left
                        · conv => lhs; simp [go_sem]
                          first | done | exact rfl
                        simp only [Act.put, List.getElem_toArray, List.getElem_cons_zero, List.getElem_cons_succ, List.setIfInBounds_toArray, List.set_cons_zero, List.set_cons_succ]
                        refine tree_two (i := 8) (k := 9) (by kernel_rfl) rfl rfl ?_ ?_
                        · refine ⟨_, rfl, fun K hK => ?_⟩
                          go_wp2
                          obtain ⟨wt3, hW⟩ : ∃ X, X = World.alloc wt2 (.cells #[.int .i64 0, .int .i64 0, .int .i64 0] 39) := ⟨_, rfl⟩
                          have bt3 : Hid (Below (wt2).heap.size (wt2) wt3) := Lib.hid (by rw [hW]; exact bx1 _ _ _)
                          have t7_ : Hid (Own wt3 (wt2).heap.size 39 #[.int .i64 0, .int .i64 0, .int .i64 0]) := Lib.hid (by rw [hW]; exact Own.made _ _ _)
                          have t7_lo : Hid (W8.heap.size ≤ (wt2).heap.size) := Lib.hid B1.out.size
                          replace B1 := Lib.hid (then_ B1.out bt3.out B1.out.size)
                          rw [← hW]
                          obtain ⟨gb_t7, hg_t7⟩ : ∃ g, g = (wt2).heap.size := ⟨_, rfl⟩
                          rw [← hg_t7] at t7_ t7_lo  ⊢
                          clear hW hg_t7
                          have t7 := t7_
                          refine hK _ _ (SF.out _ B1.out) ?_
                          clear hK K
                          refine tree_one (i := 9) (by kernel_rfl) rfl ?_
                          · refine ⟨_, rfl, fun K hK => ?_⟩
                            go_wp2
                            obtain ⟨wt4, hW⟩ : ∃ X, X = World.alloc wt3 (.cells #[.int .i64 0, .int .i64 0, .int .i64 0] 39) := ⟨_, rfl⟩
                            have bt4 : Hid (Below (wt3).heap.size (wt3) wt4) := Lib.hid (by rw [hW]; exact bx1 _ _ _)
                            have t8_ : Hid (Own wt4 (wt3).heap.size 39 #[.int .i64 0, .int .i64 0, .int .i64 0]) := Lib.hid (by rw [hW]; exact Own.made _ _ _)
                            have t8_lo : Hid (W8.heap.size ≤ (wt3).heap.size) := Lib.hid B1.out.size
                            have ne_t8_t7 : (wt3).heap.size ≠ gb_t7 := fun e => by have := t7.out.in_; omega
                            replace B1 := Lib.hid (then_ B1.out bt4.out B1.out.size)
                            replace t7 := Lib.hid (t7.out.keep bt4.out)
                            rw [← hW]
                            obtain ⟨gb_t8, hg_t8⟩ : ∃ g, g = (wt3).heap.size := ⟨_, rfl⟩
                            rw [← hg_t8] at t8_ t8_lo ne_t8_t7 ⊢
                            clear hW hg_t8
                            have ne_t7_t8 := Ne.symm ne_t8_t7
                            have t8 := t8_
                            refine hK _ _ (SF.out _ B1.out) ?_
                            clear hK K
                            refine tree_one (i := 10) (by kernel_rfl) rfl ?_
                            · refine ⟨_, rfl, fun K hK => ?_⟩
                              obtain ⟨fz1, fz2, fz3⟩ := t7.out.at_
                              go_wp2
                              clear fz1 fz2 fz3
                              have t7_f : Hid (Own (World.setCell (World.setCell (World.setCell wt4 ⟨gb_t7, 0, none⟩ (.int .i64 a1)) ⟨gb_t7, 1, none⟩ (.int .i64 a2)) ⟨gb_t7, 2, none⟩ (.int .i64 a3)) gb_t7 39 #[.int .i64 a1, .int .i64 a2, .int .i64 a3]) := Lib.hid ((((t7.out.put 0 _).put 1 _).put 2 _).as (by simp))
                              have t8_g : Hid (Own (World.setCell (World.setCell (World.setCell wt4 ⟨gb_t7, 0, none⟩ (.int .i64 a1)) ⟨gb_t7, 1, none⟩ (.int .i64 a2)) ⟨gb_t7, 2, none⟩ (.int .i64 a3)) gb_t8 39 #[.int .i64 0, .int .i64 0, .int .i64 0]) := Lib.hid (((t8.out.apart ne_t8_t7 _ _).apart ne_t8_t7 _ _).apart ne_t8_t7 _ _)
                              have BF_ : Hid (Below W8.heap.size W8 (World.setCell (World.setCell (World.setCell wt4 ⟨gb_t7, 0, none⟩ (.int .i64 a1)) ⟨gb_t7, 1, none⟩ (.int .i64 a2)) ⟨gb_t7, 2, none⟩ (.int .i64 a3))) := Lib.hid (Below.setCell (Below.setCell (Below.setCell B1.out (p := ⟨gb_t7, 0, none⟩) (t7_lo.out) _) (p := ⟨gb_t7, 1, none⟩) (t7_lo.out) _) (p := ⟨gb_t7, 2, none⟩) (t7_lo.out) _)
                              generalize hWF_ : (World.setCell (World.setCell (World.setCell wt4 ⟨gb_t7, 0, none⟩ (.int .i64 a1)) ⟨gb_t7, 1, none⟩ (.int .i64 a2)) ⟨gb_t7, 2, none⟩ (.int .i64 a3)) = wt5 at t7_f BF_ t8_g ⊢
                              clear hWF_
                              have BF := BF_
                              have t8_f := t8_g
                              refine hK _ _ (SF.out _ BF.out) ?_
                              clear hK K
                              refine tree_one (i := 11) (by kernel_rfl) rfl ?_
                              · refine ⟨_, rfl, fun K hK => ?_⟩
                                obtain ⟨fz1, fz2, fz3⟩ := t8_f.out.at_
                                go_wp2
                                clear fz1 fz2 fz3
                                have t8_f : Hid (Own (World.setCell (World.setCell (World.setCell wt5 ⟨gb_t8, 0, none⟩ (.int .i64 b1)) ⟨gb_t8, 1, none⟩ (.int .i64 b2)) ⟨gb_t8, 2, none⟩ (.int .i64 b3)) gb_t8 39 #[.int .i64 b1, .int .i64 b2, .int .i64 b3]) := Lib.hid ((((t8_f.out.put 0 _).put 1 _).put 2 _).as (by simp))
                                have t7_g : Hid (Own (World.setCell (World.setCell (World.setCell wt5 ⟨gb_t8, 0, none⟩ (.int .i64 b1)) ⟨gb_t8, 1, none⟩ (.int .i64 b2)) ⟨gb_t8, 2, none⟩ (.int .i64 b3)) gb_t7 39 #[.int .i64 a1, .int .i64 a2, .int .i64 a3]) := Lib.hid (((t7_f.out.apart ne_t7_t8 _ _).apart ne_t7_t8 _ _).apart ne_t7_t8 _ _)
                                have BF_ : Hid (Below W8.heap.size W8 (World.setCell (World.setCell (World.setCell wt5 ⟨gb_t8, 0, none⟩ (.int .i64 b1)) ⟨gb_t8, 1, none⟩ (.int .i64 b2)) ⟨gb_t8, 2, none⟩ (.int .i64 b3))) := Lib.hid (Below.setCell (Below.setCell (Below.setCell BF.out (p := ⟨gb_t8, 0, none⟩) (t8_lo.out) _) (p := ⟨gb_t8, 1, none⟩) (t8_lo.out) _) (p := ⟨gb_t8, 2, none⟩) (t8_lo.out) _)
                                generalize hWF_ : (World.setCell (World.setCell (World.setCell wt5 ⟨gb_t8, 0, none⟩ (.int .i64 b1)) ⟨gb_t8, 1, none⟩ (.int .i64 b2)) ⟨gb_t8, 2, none⟩ (.int .i64 b3)) = wt6 at t8_f BF_ t7_g ⊢
                                clear hWF_
                                have BF := BF_
                                have t7_f := t7_g
                                refine hK _ _ (SF.out _ BF.out) ?_
                                clear hK K
                                refine tree_pure (i := 12) (v := ?_) rfl rfl (by kernel_rfl) (by kernel_rfl) (by kernel_rfl) rfl (fun W hS => ?_) (SF.out _ BF.out) ?_
                                rotate_left
                                · conv => lhs; simp [go_sem]
                                  first | done | exact rfl
                                simp only [Act.put, List.getElem_toArray, List.getElem_cons_zero, List.getElem_cons_succ, List.setIfInBounds_toArray, List.set_cons_zero, List.set_cons_succ]
                                refine tree_end (by kernel_rfl) ?_
                                go_wp2_with fail
                                go_meet
                                exact ⟨_, _, rfl, rfl, rfl, t8_f, BF⟩
                        · refine ⟨_, rfl, fun K hK => ?_⟩
                          go_wp2
                          obtain ⟨wt7, hW⟩ : ∃ X, X = World.alloc wt2 (.cells #[.int .i64 0, .int .i64 0, .int .i64 0] 39) := ⟨_, rfl⟩
                          have bt7 : Hid (Below (wt2).heap.size (wt2) wt7) := Lib.hid (by rw [hW]; exact bx1 _ _ _)
                          have t8_ : Hid (Own wt7 (wt2).heap.size 39 #[.int .i64 0, .int .i64 0, .int .i64 0]) := Lib.hid (by rw [hW]; exact Own.made _ _ _)
                          have t8_lo : Hid (W8.heap.size ≤ (wt2).heap.size) := Lib.hid B1.out.size
                          replace B1 := Lib.hid (then_ B1.out bt7.out B1.out.size)
                          rw [← hW]
                          obtain ⟨gb_t8, hg_t8⟩ : ∃ g, g = (wt2).heap.size := ⟨_, rfl⟩
                          rw [← hg_t8] at t8_ t8_lo  ⊢
                          clear hW hg_t8
                          have t8 := t8_
                          refine hK _ _ (SF.out _ B1.out) ?_
                          clear hK K
                          refine tree_one (i := 8) (by kernel_rfl) rfl ?_
                          · refine ⟨_, rfl, fun K hK => ?_⟩
                            go_wp2
                            obtain ⟨wt8, hW⟩ : ∃ X, X = World.alloc wt7 (.cells #[.int .i64 0, .int .i64 0, .int .i64 0] 39) := ⟨_, rfl⟩
                            have bt8 : Hid (Below (wt7).heap.size (wt7) wt8) := Lib.hid (by rw [hW]; exact bx1 _ _ _)
                            have t7_ : Hid (Own wt8 (wt7).heap.size 39 #[.int .i64 0, .int .i64 0, .int .i64 0]) := Lib.hid (by rw [hW]; exact Own.made _ _ _)
                            have t7_lo : Hid (W8.heap.size ≤ (wt7).heap.size) := Lib.hid B1.out.size
                            have ne_t7_t8 : (wt7).heap.size ≠ gb_t8 := fun e => by have := t8.out.in_; omega
                            replace B1 := Lib.hid (then_ B1.out bt8.out B1.out.size)
                            replace t8 := Lib.hid (t8.out.keep bt8.out)
                            rw [← hW]
                            obtain ⟨gb_t7, hg_t7⟩ : ∃ g, g = (wt7).heap.size := ⟨_, rfl⟩
                            rw [← hg_t7] at t7_ t7_lo ne_t7_t8 ⊢
                            clear hW hg_t7
                            have ne_t8_t7 := Ne.symm ne_t7_t8
                            have t7 := t7_
                            refine hK _ _ (SF.out _ B1.out) ?_
                            clear hK K
                            refine tree_one (i := 10) (by kernel_rfl) rfl ?_
                            · refine ⟨_, rfl, fun K hK => ?_⟩
                              obtain ⟨fz1, fz2, fz3⟩ := t7.out.at_
                              go_wp2
                              clear fz1 fz2 fz3
                              have t7_f : Hid (Own (World.setCell (World.setCell (World.setCell wt8 ⟨gb_t7, 0, none⟩ (.int .i64 a1)) ⟨gb_t7, 1, none⟩ (.int .i64 a2)) ⟨gb_t7, 2, none⟩ (.int .i64 a3)) gb_t7 39 #[.int .i64 a1, .int .i64 a2, .int .i64 a3]) := Lib.hid ((((t7.out.put 0 _).put 1 _).put 2 _).as (by simp))
                              have t8_g : Hid (Own (World.setCell (World.setCell (World.setCell wt8 ⟨gb_t7, 0, none⟩ (.int .i64 a1)) ⟨gb_t7, 1, none⟩ (.int .i64 a2)) ⟨gb_t7, 2, none⟩ (.int .i64 a3)) gb_t8 39 #[.int .i64 0, .int .i64 0, .int .i64 0]) := Lib.hid (((t8.out.apart ne_t8_t7 _ _).apart ne_t8_t7 _ _).apart ne_t8_t7 _ _)
                              have BF_ : Hid (Below W8.heap.size W8 (World.setCell (World.setCell (World.setCell wt8 ⟨gb_t7, 0, none⟩ (.int .i64 a1)) ⟨gb_t7, 1, none⟩ (.int .i64 a2)) ⟨gb_t7, 2, none⟩ (.int .i64 a3))) := Lib.hid (Below.setCell (Below.setCell (Below.setCell B1.out (p := ⟨gb_t7, 0, none⟩) (t7_lo.out) _) (p := ⟨gb_t7, 1, none⟩) (t7_lo.out) _) (p := ⟨gb_t7, 2, none⟩) (t7_lo.out) _)
                              generalize hWF_ : (World.setCell (World.setCell (World.setCell wt8 ⟨gb_t7, 0, none⟩ (.int .i64 a1)) ⟨gb_t7, 1, none⟩ (.int .i64 a2)) ⟨gb_t7, 2, none⟩ (.int .i64 a3)) = wt9 at t7_f BF_ t8_g ⊢
                              clear hWF_
                              have BF := BF_
                              have t8_f := t8_g
                              refine hK _ _ (SF.out _ BF.out) ?_
                              clear hK K
                              refine tree_one (i := 11) (by kernel_rfl) rfl ?_
                              · refine ⟨_, rfl, fun K hK => ?_⟩
                                obtain ⟨fz1, fz2, fz3⟩ := t8_f.out.at_
                                go_wp2
                                clear fz1 fz2 fz3
                                have t8_f : Hid (Own (World.setCell (World.setCell (World.setCell wt9 ⟨gb_t8, 0, none⟩ (.int .i64 b1)) ⟨gb_t8, 1, none⟩ (.int .i64 b2)) ⟨gb_t8, 2, none⟩ (.int .i64 b3)) gb_t8 39 #[.int .i64 b1, .int .i64 b2, .int .i64 b3]) := Lib.hid ((((t8_f.out.put 0 _).put 1 _).put 2 _).as (by simp))
                                have t7_g : Hid (Own (World.setCell (World.setCell (World.setCell wt9 ⟨gb_t8, 0, none⟩ (.int .i64 b1)) ⟨gb_t8, 1, none⟩ (.int .i64 b2)) ⟨gb_t8, 2, none⟩ (.int .i64 b3)) gb_t7 39 #[.int .i64 a1, .int .i64 a2, .int .i64 a3]) := Lib.hid (((t7_f.out.apart ne_t7_t8 _ _).apart ne_t7_t8 _ _).apart ne_t7_t8 _ _)
                                have BF_ : Hid (Below W8.heap.size W8 (World.setCell (World.setCell (World.setCell wt9 ⟨gb_t8, 0, none⟩ (.int .i64 b1)) ⟨gb_t8, 1, none⟩ (.int .i64 b2)) ⟨gb_t8, 2, none⟩ (.int .i64 b3))) := Lib.hid (Below.setCell (Below.setCell (Below.setCell BF.out (p := ⟨gb_t8, 0, none⟩) (t8_lo.out) _) (p := ⟨gb_t8, 1, none⟩) (t8_lo.out) _) (p := ⟨gb_t8, 2, none⟩) (t8_lo.out) _)
                                generalize hWF_ : (World.setCell (World.setCell (World.setCell wt9 ⟨gb_t8, 0, none⟩ (.int .i64 b1)) ⟨gb_t8, 1, none⟩ (.int .i64 b2)) ⟨gb_t8, 2, none⟩ (.int .i64 b3)) = wt10 at t8_f BF_ t7_g ⊢
                                clear hWF_
                                have BF := BF_
                                have t7_f := t7_g
                                refine hK _ _ (SF.out _ BF.out) ?_
                                clear hK K
                                refine tree_pure (i := 12) (v := ?_) rfl rfl (by kernel_rfl) (by kernel_rfl) (by kernel_rfl) rfl (fun W hS => ?_) (SF.out _ BF.out) ?_
                                rotate_left
                                · conv => lhs; simp [go_sem]
                                  first | done | exact rfl
                                simp only [Act.put, List.getElem_toArray, List.getElem_cons_zero, List.getElem_cons_succ, List.setIfInBounds_toArray, List.set_cons_zero, List.set_cons_succ]
                                refine tree_end (by kernel_rfl) ?_
                                go_wp2_with fail
                                go_meet
                                exact ⟨_, _, rfl, rfl, rfl, t8_f, BF⟩
                      · refine ⟨_, rfl, fun K hK => ?_⟩
                        go_wp2
                        obtain ⟨wt11, hW⟩ : ∃ X, X = World.alloc wt1 (.cells #[.int .i64 0, .int .i64 0, .int .i64 0] 39) := ⟨_, rfl⟩
                        have bt11 : Hid (Below (wt1).heap.size (wt1) wt11) := Lib.hid (by rw [hW]; exact bx1 _ _ _)
                        have t7_ : Hid (Own wt11 (wt1).heap.size 39 #[.int .i64 0, .int .i64 0, .int .i64 0]) := Lib.hid (by rw [hW]; exact Own.made _ _ _)
                        have t7_lo : Hid (W8.heap.size ≤ (wt1).heap.size) := Lib.hid B1.out.size
                        replace B1 := Lib.hid (then_ B1.out bt11.out B1.out.size)
                        rw [← hW]
                        obtain ⟨gb_t7, hg_t7⟩ : ∃ g, g = (wt1).heap.size := ⟨_, rfl⟩
                        rw [← hg_t7] at t7_ t7_lo  ⊢
                        clear hW hg_t7
                        have t7 := t7_
                        refine hK _ _ (SF.out _ B1.out) ?_
                        clear hK K
                        refine tree_two (i := 3) (k := 9) (by kernel_rfl) rfl rfl ?_ ?_
                        · refine ⟨_, rfl, fun K hK => ?_⟩
                          go_wp2_with (go_at_call 16; refine (ENX.out _ (then_ BW8.out B1.out BW8.out.size)).mono ?_; rintro e wt12 ⟨rfl, bt12⟩; replace bt12 := Lib.hid bt12)
                          replace B1 := Lib.hid (then_ B1.out bt12.out B1.out.size)
                          replace t7 := Lib.hid (t7.out.keep bt12.out)
                          refine hK _ _ (SF.out _ B1.out) ?_
                          clear hK K
                          refine tree_pure (i := 4) (v := ?_) rfl rfl (by kernel_rfl) (by kernel_rfl) (by kernel_rfl) rfl (fun W hS => ?_) (SF.out _ B1.out) ?_
                          rotate_left
                          · conv => lhs; simp [go_sem]
                            first | done | exact rfl
                          simp only [Act.put, List.getElem_toArray, List.getElem_cons_zero, List.getElem_cons_succ, List.setIfInBounds_toArray, List.set_cons_zero, List.set_cons_succ]
                          refine tree_pure (i := 5) (v := ?_) rfl rfl (by kernel_rfl) (by kernel_rfl) (by kernel_rfl) rfl (fun W hS => ?_) (SF.out _ B1.out) ?_
                          rotate_left
                          · conv => lhs; simp [go_sem]
                            first | done | exact rfl
                          simp only [Act.put, List.getElem_toArray, List.getElem_cons_zero, List.getElem_cons_succ, List.setIfInBounds_toArray, List.set_cons_zero, List.set_cons_succ]
                          refine tree_pure (i := 6) (v := ?_) rfl rfl (by kernel_rfl) (by kernel_rfl) (by kernel_rfl) rfl (fun W hS => ?_) (SF.out _ B1.out) ?_
                          rotate_left
                          · conv => lhs; simp [go_sem]
                            first | done | exact rfl
                          simp only [Act.put, List.getElem_toArray, List.getElem_cons_zero, List.getElem_cons_succ, List.setIfInBounds_toArray, List.set_cons_zero, List.set_cons_succ]
                          refine tree_pure (i := 7) (v := ?_) rfl rfl (by kernel_rfl) (by kernel_rfl) (by kernel_rfl) rfl (fun W hS => ?_) (SF.out _ B1.out) ?_
                          rotate_left
                          · conv => lhs; simp [go_sem]
                            first | done | exact rfl
                          simp only [Act.put, List.getElem_toArray, List.getElem_cons_zero, List.getElem_cons_succ, List.setIfInBounds_toArray, List.set_cons_zero, List.set_cons_succ]
                          refine tree_one (i := 9) (by kernel_rfl) rfl ?_
                          · refine ⟨_, rfl, fun K hK => ?_⟩
                            go_wp2
                            obtain ⟨wt13, hW⟩ : ∃ X, X = World.alloc wt12 (.cells #[.int .i64 0, .int .i64 0, .int .i64 0] 39) := ⟨_, rfl⟩
                            have bt13 : Hid (Below (wt12).heap.size (wt12) wt13) := Lib.hid (by rw [hW]; exact bx1 _ _ _)
                            have t8_ : Hid (Own wt13 (wt12).heap.size 39 #[.int .i64 0, .int .i64 0, .int .i64 0]) := Lib.hid (by rw [hW]; exact Own.made _ _ _)
                            have t8_lo : Hid (W8.heap.size ≤ (wt12).heap.size) := Lib.hid B1.out.size
                            have ne_t8_t7 : (wt12).heap.size ≠ gb_t7 := fun e => by have := t7.out.in_; omega
                            replace B1 := Lib.hid (then_ B1.out bt13.out B1.out.size)
                            replace t7 := Lib.hid (t7.out.keep bt13.out)
                            rw [← hW]
                            obtain ⟨gb_t8, hg_t8⟩ : ∃ g, g = (wt12).heap.size := ⟨_, rfl⟩
                            rw [← hg_t8] at t8_ t8_lo ne_t8_t7 ⊢
                            clear hW hg_t8
                            have ne_t7_t8 := Ne.symm ne_t8_t7
                            have t8 := t8_
                            refine hK _ _ (SF.out _ B1.out) ?_
                            clear hK K
                            refine tree_one (i := 10) (by kernel_rfl) rfl ?_
                            · refine ⟨_, rfl, fun K hK => ?_⟩
                              obtain ⟨fz1, fz2, fz3⟩ := t7.out.at_
                              go_wp2
                              clear fz1 fz2 fz3
                              have t7_f : Hid (Own (World.setCell (World.setCell (World.setCell wt13 ⟨gb_t7, 0, none⟩ (.int .i64 a1)) ⟨gb_t7, 1, none⟩ (.int .i64 a2)) ⟨gb_t7, 2, none⟩ (.int .i64 a3)) gb_t7 39 #[.int .i64 a1, .int .i64 a2, .int .i64 a3]) := Lib.hid ((((t7.out.put 0 _).put 1 _).put 2 _).as (by simp))
                              have t8_g : Hid (Own (World.setCell (World.setCell (World.setCell wt13 ⟨gb_t7, 0, none⟩ (.int .i64 a1)) ⟨gb_t7, 1, none⟩ (.int .i64 a2)) ⟨gb_t7, 2, none⟩ (.int .i64 a3)) gb_t8 39 #[.int .i64 0, .int .i64 0, .int .i64 0]) := Lib.hid (((t8.out.apart ne_t8_t7 _ _).apart ne_t8_t7 _ _).apart ne_t8_t7 _ _)
                              have BF_ : Hid (Below W8.heap.size W8 (World.setCell (World.setCell (World.setCell wt13 ⟨gb_t7, 0, none⟩ (.int .i64 a1)) ⟨gb_t7, 1, none⟩ (.int .i64 a2)) ⟨gb_t7, 2, none⟩ (.int .i64 a3))) := Lib.hid (Below.setCell (Below.setCell (Below.setCell B1.out (p := ⟨gb_t7, 0, none⟩) (t7_lo.out) _) (p := ⟨gb_t7, 1, none⟩) (t7_lo.out) _) (p := ⟨gb_t7, 2, none⟩) (t7_lo.out) _)
                              generalize hWF_ : (World.setCell (World.setCell (World.setCell wt13 ⟨gb_t7, 0, none⟩ (.int .i64 a1)) ⟨gb_t7, 1, none⟩ (.int .i64 a2)) ⟨gb_t7, 2, none⟩ (.int .i64 a3)) = wt14 at t7_f BF_ t8_g ⊢
                              clear hWF_
                              have BF := BF_
                              have t8_f := t8_g
                              refine hK _ _ (SF.out _ BF.out) ?_
                              clear hK K
                              refine tree_one (i := 11) (by kernel_rfl) rfl ?_
                              · refine ⟨_, rfl, fun K hK => ?_⟩
                                obtain ⟨fz1, fz2, fz3⟩ := t8_f.out.at_
                                go_wp2
                                clear fz1 fz2 fz3
                                have t8_f : Hid (Own (World.setCell (World.setCell (World.setCell wt14 ⟨gb_t8, 0, none⟩ (.int .i64 b1)) ⟨gb_t8, 1, none⟩ (.int .i64 b2)) ⟨gb_t8, 2, none⟩ (.int .i64 b3)) gb_t8 39 #[.int .i64 b1, .int .i64 b2, .int .i64 b3]) := Lib.hid ((((t8_f.out.put 0 _).put 1 _).put 2 _).as (by simp))
                                have t7_g : Hid (Own (World.setCell (World.setCell (World.setCell wt14 ⟨gb_t8, 0, none⟩ (.int .i64 b1)) ⟨gb_t8, 1, none⟩ (.int .i64 b2)) ⟨gb_t8, 2, none⟩ (.int .i64 b3)) gb_t7 39 #[.int .i64 a1, .int .i64 a2, .int .i64 a3]) := Lib.hid (((t7_f.out.apart ne_t7_t8 _ _).apart ne_t7_t8 _ _).apart ne_t7_t8 _ _)
                                have BF_ : Hid (Below W8.heap.size W8 (World.setCell (World.setCell (World.setCell wt14 ⟨gb_t8, 0, none⟩ (.int .i64 b1)) ⟨gb_t8, 1, none⟩ (.int .i64 b2)) ⟨gb_t8, 2, none⟩ (.int .i64 b3))) := Lib.hid (Below.setCell (Below.setCell (Below.setCell BF.out (p := ⟨gb_t8, 0, none⟩) (t8_lo.out) _) (p := ⟨gb_t8, 1, none⟩) (t8_lo.out) _) (p := ⟨gb_t8, 2, none⟩) (t8_lo.out) _)
                                generalize hWF_ : (World.setCell (World.setCell (World.setCell wt14 ⟨gb_t8, 0, none⟩ (.int .i64 b1)) ⟨gb_t8, 1, none⟩ (.int .i64 b2)) ⟨gb_t8, 2, none⟩ (.int .i64 b3)) = wt15 at t8_f BF_ t7_g ⊢
                                clear hWF_
                                have BF := BF_
                                have t7_f := t7_g
                                refine hK _ _ (SF.out _ BF.out) ?_
                                clear hK K
                                refine tree_pure (i := 12) (v := ?_) rfl rfl (by kernel_rfl) (by kernel_rfl) (by kernel_rfl) rfl (fun W hS => ?_) (SF.out _ BF.out) ?_
                                rotate_left
                                · conv => lhs; simp [go_sem]
                                  first | done | exact rfl
                                simp only [Act.put, List.getElem_toArray, List.getElem_cons_zero, List.getElem_cons_succ, List.setIfInBounds_toArray, List.set_cons_zero, List.set_cons_succ]
                                refine tree_end (by kernel_rfl) ?_
                                go_wp2_with fail
                                go_meet
                                exact ⟨_, _, rfl, rfl, rfl, t8_f, BF⟩
                        · refine ⟨_, rfl, fun K hK => ?_⟩
                          go_wp2
                          obtain ⟨wt16, hW⟩ : ∃ X, X = World.alloc wt11 (.cells #[.int .i64 0, .int .i64 0, .int .i64 0] 39) := ⟨_, rfl⟩
                          have bt16 : Hid (Below (wt11).heap.size (wt11) wt16) := Lib.hid (by rw [hW]; exact bx1 _ _ _)
                          have t8_ : Hid (Own wt16 (wt11).heap.size 39 #[.int .i64 0, .int .i64 0, .int .i64 0]) := Lib.hid (by rw [hW]; exact Own.made _ _ _)
                          have t8_lo : Hid (W8.heap.size ≤ (wt11).heap.size) := Lib.hid B1.out.size
                          have ne_t8_t7 : (wt11).heap.size ≠ gb_t7 := fun e => by have := t7.out.in_; omega
                          replace B1 := Lib.hid (then_ B1.out bt16.out B1.out.size)
                          replace t7 := Lib.hid (t7.out.keep bt16.out)
                          rw [← hW]
                          obtain ⟨gb_t8, hg_t8⟩ : ∃ g, g = (wt11).heap.size := ⟨_, rfl⟩
                          rw [← hg_t8] at t8_ t8_lo ne_t8_t7 ⊢
                          clear hW hg_t8
                          have ne_t7_t8 := Ne.symm ne_t8_t7
                          have t8 := t8_
                          refine hK _ _ (SF.out _ B1.out) ?_
                          clear hK K
                          refine tree_one (i := 3) (by kernel_rfl) rfl ?_
                          · refine ⟨_, rfl, fun K hK => ?_⟩
                            go_wp2_with (go_at_call 16; refine (ENX.out _ (then_ BW8.out B1.out BW8.out.size)).mono ?_; rintro e wt17 ⟨rfl, bt17⟩; replace bt17 := Lib.hid bt17)
                            replace B1 := Lib.hid (then_ B1.out bt17.out B1.out.size)
                            replace t7 := Lib.hid (t7.out.keep bt17.out)
                            replace t8 := Lib.hid (t8.out.keep bt17.out)
                            refine hK _ _ (SF.out _ B1.out) ?_
                            clear hK K
                            refine tree_pure (i := 4) (v := ?_) rfl rfl (by kernel_rfl) (by kernel_rfl) (by kernel_rfl) rfl (fun W hS => ?_) (SF.out _ B1.out) ?_
                            rotate_left
                            · conv => lhs; simp [go_sem]
                              first | done | exact rfl
                            simp only [Act.put, List.getElem_toArray, List.getElem_cons_zero, List.getElem_cons_succ, List.setIfInBounds_toArray, List.set_cons_zero, List.set_cons_succ]
                            refine tree_pure (i := 5) (v := ?_) rfl rfl (by kernel_rfl) (by kernel_rfl) (by kernel_rfl) rfl (fun W hS => ?_) (SF.out _ B1.out) ?_
                            rotate_left
                            · conv => lhs; simp [go_sem]
                              first | done | exact rfl
                            simp only [Act.put, List.getElem_toArray, List.getElem_cons_zero, List.getElem_cons_succ, List.setIfInBounds_toArray, List.set_cons_zero, List.set_cons_succ]
                            refine tree_pure (i := 6) (v := ?_) rfl rfl (by kernel_rfl) (by kernel_rfl) (by kernel_rfl) rfl (fun W hS => ?_) (SF.out _ B1.out) ?_
                            rotate_left
                            · conv => lhs; simp [go_sem]
                              first | done | exact rfl
                            simp only [Act.put, List.getElem_toArray, List.getElem_cons_zero, List.getElem_cons_succ, List.setIfInBounds_toArray, List.set_cons_zero, List.set_cons_succ]
                            refine tree_pure (i := 7) (v := ?_) rfl rfl (by kernel_rfl) (by kernel_rfl) (by kernel_rfl) rfl (fun W hS => ?_) (SF.out _ B1.out) ?_
                            rotate_left
                            · conv => lhs; simp [go_sem]
                              first | done | exact rfl
                            simp only [Act.put, List.getElem_toArray, List.getElem_cons_zero, List.getElem_cons_succ, List.setIfInBounds_toArray, List.set_cons_zero, List.set_cons_succ]
                            refine tree_one (i := 10) (by kernel_rfl) rfl ?_
                            · refine ⟨_, rfl, fun K hK => ?_⟩
                              obtain ⟨fz1, fz2, fz3⟩ := t7.out.at_
                              go_wp2
                              clear fz1 fz2 fz3
                              have t7_f : Hid (Own (World.setCell (World.setCell (World.setCell wt17 ⟨gb_t7, 0, none⟩ (.int .i64 a1)) ⟨gb_t7, 1, none⟩ (.int .i64 a2)) ⟨gb_t7, 2, none⟩ (.int .i64 a3)) gb_t7 39 #[.int .i64 a1, .int .i64 a2, .int .i64 a3]) := Lib.hid ((((t7.out.put 0 _).put 1 _).put 2 _).as (by simp))
                              have t8_g : Hid (Own (World.setCell (World.setCell (World.setCell wt17 ⟨gb_t7, 0, none⟩ (.int .i64 a1)) ⟨gb_t7, 1, none⟩ (.int .i64 a2)) ⟨gb_t7, 2, none⟩ (.int .i64 a3)) gb_t8 39 #[.int .i64 0, .int .i64 0, .int .i64 0]) := Lib.hid (((t8.out.apart ne_t8_t7 _ _).apart ne_t8_t7 _ _).apart ne_t8_t7 _ _)
                              have BF_ : Hid (Below W8.heap.size W8 (World.setCell (World.setCell (World.setCell wt17 ⟨gb_t7, 0, none⟩ (.int .i64 a1)) ⟨gb_t7, 1, none⟩ (.int .i64 a2)) ⟨gb_t7, 2, none⟩ (.int .i64 a3))) := Lib.hid (Below.setCell (Below.setCell (Below.setCell B1.out (p := ⟨gb_t7, 0, none⟩) (t7_lo.out) _) (p := ⟨gb_t7, 1, none⟩) (t7_lo.out) _) (p := ⟨gb_t7, 2, none⟩) (t7_lo.out) _)
                              generalize hWF_ : (World.setCell (World.setCell (World.setCell wt17 ⟨gb_t7, 0, none⟩ (.int .i64 a1)) ⟨gb_t7, 1, none⟩ (.int .i64 a2)) ⟨gb_t7, 2, none⟩ (.int .i64 a3)) = wt18 at t7_f BF_ t8_g ⊢
                              clear hWF_
                              have BF := BF_
                              have t8_f := t8_g
                              refine hK _ _ (SF.out _ BF.out) ?_
                              clear hK K
                              refine tree_one (i := 11) (by kernel_rfl) rfl ?_
                              · refine ⟨_, rfl, fun K hK => ?_⟩
                                obtain ⟨fz1, fz2, fz3⟩ := t8_f.out.at_
                                go_wp2
                                clear fz1 fz2 fz3
                                have t8_f : Hid (Own (World.setCell (World.setCell (World.setCell wt18 ⟨gb_t8, 0, none⟩ (.int .i64 b1)) ⟨gb_t8, 1, none⟩ (.int .i64 b2)) ⟨gb_t8, 2, none⟩ (.int .i64 b3)) gb_t8 39 #[.int .i64 b1, .int .i64 b2, .int .i64 b3]) := Lib.hid ((((t8_f.out.put 0 _).put 1 _).put 2 _).as (by simp))
                                have t7_g : Hid (Own (World.setCell (World.setCell (World.setCell wt18 ⟨gb_t8, 0, none⟩ (.int .i64 b1)) ⟨gb_t8, 1, none⟩ (.int .i64 b2)) ⟨gb_t8, 2, none⟩ (.int .i64 b3)) gb_t7 39 #[.int .i64 a1, .int .i64 a2, .int .i64 a3]) := Lib.hid (((t7_f.out.apart ne_t7_t8 _ _).apart ne_t7_t8 _ _).apart ne_t7_t8 _ _)
                                have BF_ : Hid (Below W8.heap.size W8 (World.setCell (World.setCell (World.setCell wt18 ⟨gb_t8, 0, none⟩ (.int .i64 b1)) ⟨gb_t8, 1, none⟩ (.int .i64 b2)) ⟨gb_t8, 2, none⟩ (.int .i64 b3))) := Lib.hid (Below.setCell (Below.setCell (Below.setCell BF.out (p := ⟨gb_t8, 0, none⟩) (t8_lo.out) _) (p := ⟨gb_t8, 1, none⟩) (t8_lo.out) _) (p := ⟨gb_t8, 2, none⟩) (t8_lo.out) _)
                                generalize hWF_ : (World.setCell (World.setCell (World.setCell wt18 ⟨gb_t8, 0, none⟩ (.int .i64 b1)) ⟨gb_t8, 1, none⟩ (.int .i64 b2)) ⟨gb_t8, 2, none⟩ (.int .i64 b3)) = wt19 at t8_f BF_ t7_g ⊢
                                clear hWF_
                                have BF := BF_
                                have t7_f := t7_g
                                refine hK _ _ (SF.out _ BF.out) ?_
                                clear hK K
                                refine tree_pure (i := 12) (v := ?_) rfl rfl (by kernel_rfl) (by kernel_rfl) (by kernel_rfl) rfl (fun W hS => ?_) (SF.out _ BF.out) ?_
                                rotate_left
                                · conv => lhs; simp [go_sem]
                                  first | done | exact rfl
                                simp only [Act.put, List.getElem_toArray, List.getElem_cons_zero, List.getElem_cons_succ, List.setIfInBounds_toArray, List.set_cons_zero, List.set_cons_succ]
                                refine tree_end (by kernel_rfl) ?_
                                go_wp2_with fail
                                go_meet
                                exact ⟨_, _, rfl, rfl, rfl, t8_f, BF⟩
                      · refine ⟨_, rfl, fun K hK => ?_⟩
                        go_wp2
                        obtain ⟨wt20, hW⟩ : ∃ X, X = World.alloc wt1 (.cells #[.int .i64 0, .int .i64 0, .int .i64 0] 39) := ⟨_, rfl⟩
                        have bt20 : Hid (Below (wt1).heap.size (wt1) wt20) := Lib.hid (by rw [hW]; exact bx1 _ _ _)
                        have t8_ : Hid (Own wt20 (wt1).heap.size 39 #[.int .i64 0, .int .i64 0, .int .i64 0]) := Lib.hid (by rw [hW]; exact Own.made _ _ _)
                        have t8_lo : Hid (W8.heap.size ≤ (wt1).heap.size) := Lib.hid B1.out.size
                        replace B1 := Lib.hid (then_ B1.out bt20.out B1.out.size)
                        rw [← hW]
                        obtain ⟨gb_t8, hg_t8⟩ : ∃ g, g = (wt1).heap.size := ⟨_, rfl⟩
                        rw [← hg_t8] at t8_ t8_lo  ⊢
                        clear hW hg_t8
                        have t8 := t8_
                        refine hK _ _ (SF.out _ B1.out) ?_
                        clear hK K
                        refine tree_two (i := 3) (k := 8) (by kernel_rfl) rfl rfl ?_ ?_
                        · refine ⟨_, rfl, fun K hK => ?_⟩
                          go_wp2_with (go_at_call 16; refine (ENX.out _ (then_ BW8.out B1.out BW8.out.size)).mono ?_; rintro e wt21 ⟨rfl, bt21⟩; replace bt21 := Lib.hid bt21)
                          replace B1 := Lib.hid (then_ B1.out bt21.out B1.out.size)
                          replace t8 := Lib.hid (t8.out.keep bt21.out)
                          refine hK _ _ (SF.out _ B1.out) ?_
                          clear hK K
                          refine tree_pure (i := 4) (v := ?_) rfl rfl (by kernel_rfl) (by kernel_rfl) (by kernel_rfl) rfl (fun W hS => ?_) (SF.out _ B1.out) ?_
                          rotate_left
                          · conv => lhs; simp [go_sem]
                            first | done | exact rfl
                          simp only [Act.put, List.getElem_toArray, List.getElem_cons_zero, List.getElem_cons_succ, List.setIfInBounds_toArray, List.set_cons_zero, List.set_cons_succ]
                          refine tree_pure (i := 5) (v := ?_) rfl rfl (by kernel_rfl) (by kernel_rfl) (by kernel_rfl) rfl (fun W hS => ?_) (SF.out _ B1.out) ?_
                          rotate_left
                          · conv => lhs; simp [go_sem]
                            first | done | exact rfl
                          simp only [Act.put, List.getElem_toArray, List.getElem_cons_zero, List.getElem_cons_succ, List.setIfInBounds_toArray, List.set_cons_zero, List.set_cons_succ]
                          refine tree_pure (i := 6) (v := ?_) rfl rfl (by kernel_rfl) (by kernel_rfl) (by kernel_rfl) rfl (fun W hS => ?_) (SF.out _ B1.out) ?_
                          rotate_left
                          · conv => lhs; simp [go_sem]
                            first | done | exact rfl
                          simp only [Act.put, List.getElem_toArray, List.getElem_cons_zero, List.getElem_cons_succ, List.setIfInBounds_toArray, List.set_cons_zero, List.set_cons_succ]
                          refine tree_pure (i := 7) (v := ?_) rfl rfl (by kernel_rfl) (by kernel_rfl) (by kernel_rfl) rfl (fun W hS => ?_) (SF.out _ B1.out) ?_
                          rotate_left
                          · conv => lhs; simp [go_sem]
                            first | done | exact rfl
                          simp only [Act.put, List.getElem_toArray, List.getElem_cons_zero, List.getElem_cons_succ, List.setIfInBounds_toArray, List.set_cons_zero, List.set_cons_succ]
                          refine tree_one (i := 8) (by kernel_rfl) rfl ?_
                          · refine ⟨_, rfl, fun K hK => ?_⟩
                            go_wp2
                            obtain ⟨wt22, hW⟩ : ∃ X, X = World.alloc wt21 (.cells #[.int .i64 0, .int .i64 0, .int .i64 0] 39) := ⟨_, rfl⟩
                            have bt22 : Hid (Below (wt21).heap.size (wt21) wt22) := Lib.hid (by rw [hW]; exact bx1 _ _ _)
                            have t7_ : Hid (Own wt22 (wt21).heap.size 39 #[.int .i64 0, .int .i64 0, .int .i64 0]) := Lib.hid (by rw [hW]; exact Own.made _ _ _)
                            have t7_lo : Hid (W8.heap.size ≤ (wt21).heap.size) := Lib.hid B1.out.size
                            have ne_t7_t8 : (wt21).heap.size ≠ gb_t8 := fun e => by have := t8.out.in_; omega
                            replace B1 := Lib.hid (then_ B1.out bt22.out B1.out.size)
                            replace t8 := Lib.hid (t8.out.keep bt22.out)
                            rw [← hW]
                            obtain ⟨gb_t7, hg_t7⟩ : ∃ g, g = (wt21).heap.size := ⟨_, rfl⟩
                            rw [← hg_t7] at t7_ t7_lo ne_t7_t8 ⊢
                            clear hW hg_t7
                            have ne_t8_t7 := Ne.symm ne_t7_t8
                            have t7 := t7_
                            refine hK _ _ (SF.out _ B1.out) ?_
                            clear hK K
                            refine tree_one (i := 10) (by kernel_rfl) rfl ?_
                            · refine ⟨_, rfl, fun K hK => ?_⟩
                              obtain ⟨fz1, fz2, fz3⟩ := t7.out.at_
                              go_wp2
                              clear fz1 fz2 fz3
                              have t7_f : Hid (Own (World.setCell (World.setCell (World.setCell wt22 ⟨gb_t7, 0, none⟩ (.int .i64 a1)) ⟨gb_t7, 1, none⟩ (.int .i64 a2)) ⟨gb_t7, 2, none⟩ (.int .i64 a3)) gb_t7 39 #[.int .i64 a1, .int .i64 a2, .int .i64 a3]) := Lib.hid ((((t7.out.put 0 _).put 1 _).put 2 _).as (by simp))
                              have t8_g : Hid (Own (World.setCell (World.setCell (World.setCell wt22 ⟨gb_t7, 0, none⟩ (.int .i64 a1)) ⟨gb_t7, 1, none⟩ (.int .i64 a2)) ⟨gb_t7, 2, none⟩ (.int .i64 a3)) gb_t8 39 #[.int .i64 0, .int .i64 0, .int .i64 0]) := Lib.hid (((t8.out.apart ne_t8_t7 _ _).apart ne_t8_t7 _ _).apart ne_t8_t7 _ _)
                              have BF_ : Hid (Below W8.heap.size W8 (World.setCell (World.setCell (World.setCell wt22 ⟨gb_t7, 0, none⟩ (.int .i64 a1)) ⟨gb_t7, 1, none⟩ (.int .i64 a2)) ⟨gb_t7, 2, none⟩ (.int .i64 a3))) := Lib.hid (Below.setCell (Below.setCell (Below.setCell B1.out (p := ⟨gb_t7, 0, none⟩) (t7_lo.out) _) (p := ⟨gb_t7, 1, none⟩) (t7_lo.out) _) (p := ⟨gb_t7, 2, none⟩) (t7_lo.out) _)
                              generalize hWF_ : (World.setCell (World.setCell (World.setCell wt22 ⟨gb_t7, 0, none⟩ (.int .i64 a1)) ⟨gb_t7, 1, none⟩ (.int .i64 a2)) ⟨gb_t7, 2, none⟩ (.int .i64 a3)) = wt23 at t7_f BF_ t8_g ⊢
                              clear hWF_
                              have BF := BF_
                              have t8_f := t8_g
                              refine hK _ _ (SF.out _ BF.out) ?_
                              clear hK K
                              refine tree_one (i := 11) (by kernel_rfl) rfl ?_
                              · refine ⟨_, rfl, fun K hK => ?_⟩
                                obtain ⟨fz1, fz2, fz3⟩ := t8_f.out.at_
                                go_wp2
                                clear fz1 fz2 fz3
                                have t8_f : Hid (Own (World.setCell (World.setCell (World.setCell wt23 ⟨gb_t8, 0, none⟩ (.int .i64 b1)) ⟨gb_t8, 1, none⟩ (.int .i64 b2)) ⟨gb_t8, 2, none⟩ (.int .i64 b3)) gb_t8 39 #[.int .i64 b1, .int .i64 b2, .int .i64 b3]) := Lib.hid ((((t8_f.out.put 0 _).put 1 _).put 2 _).as (by simp))
                                have t7_g : Hid (Own (World.setCell (World.setCell (World.setCell wt23 ⟨gb_t8, 0, none⟩ (.int .i64 b1)) ⟨gb_t8, 1, none⟩ (.int .i64 b2)) ⟨gb_t8, 2, none⟩ (.int .i64 b3)) gb_t7 39 #[.int .i64 a1, .int .i64 a2, .int .i64 a3]) := Lib.hid (((t7_f.out.apart ne_t7_t8 _ _).apart ne_t7_t8 _ _).apart ne_t7_t8 _ _)
                                have BF_ : Hid (Below W8.heap.size W8 (World.setCell (World.setCell (World.setCell wt23 ⟨gb_t8, 0, none⟩ (.int .i64 b1)) ⟨gb_t8, 1, none⟩ (.int .i64 b2)) ⟨gb_t8, 2, none⟩ (.int .i64 b3))) := Lib.hid (Below.setCell (Below.setCell (Below.setCell BF.out (p := ⟨gb_t8, 0, none⟩) (t8_lo.out) _) (p := ⟨gb_t8, 1, none⟩) (t8_lo.out) _) (p := ⟨gb_t8, 2, none⟩) (t8_lo.out) _)
                                generalize hWF_ : (World.setCell (World.setCell (World.setCell wt23 ⟨gb_t8, 0, none⟩ (.int .i64 b1)) ⟨gb_t8, 1, none⟩ (.int .i64 b2)) ⟨gb_t8, 2, none⟩ (.int .i64 b3)) = wt24 at t8_f BF_ t7_g ⊢
                                clear hWF_
                                have BF := BF_
                                have t7_f := t7_g
                                refine hK _ _ (SF.out _ BF.out) ?_
                                clear hK K
                                refine tree_pure (i := 12) (v := ?_) rfl rfl (by kernel_rfl) (by kernel_rfl) (by kernel_rfl) rfl (fun W hS => ?_) (SF.out _ BF.out) ?_
                                rotate_left
                                · conv => lhs; simp [go_sem]
                                  first | done | exact rfl
                                simp only [Act.put, List.getElem_toArray, List.getElem_cons_zero, List.getElem_cons_succ, List.setIfInBounds_toArray, List.set_cons_zero, List.set_cons_succ]
                                refine tree_end (by kernel_rfl) ?_
                                go_wp2_with fail
                                go_meet
                                exact ⟨_, _, rfl, rfl, rfl, t8_f, BF⟩
                        · refine ⟨_, rfl, fun K hK => ?_⟩
                          go_wp2
                          obtain ⟨wt25, hW⟩ : ∃ X, X = World.alloc wt20 (.cells #[.int .i64 0, .int .i64 0, .int .i64 0] 39) := ⟨_, rfl⟩
                          have bt25 : Hid (Below (wt20).heap.size (wt20) wt25) := Lib.hid (by rw [hW]; exact bx1 _ _ _)
                          have t7_ : Hid (Own wt25 (wt20).heap.size 39 #[.int .i64 0, .int .i64 0, .int .i64 0]) := Lib.hid (by rw [hW]; exact Own.made _ _ _)
                          have t7_lo : Hid (W8.heap.size ≤ (wt20).heap.size) := Lib.hid B1.out.size
                          have ne_t7_t8 : (wt20).heap.size ≠ gb_t8 := fun e => by have := t8.out.in_; omega
                          replace B1 := Lib.hid (then_ B1.out bt25.out B1.out.size)
                          replace t8 := Lib.hid (t8.out.keep bt25.out)
                          rw [← hW]
                          obtain ⟨gb_t7, hg_t7⟩ : ∃ g, g = (wt20).heap.size := ⟨_, rfl⟩
                          rw [← hg_t7] at t7_ t7_lo ne_t7_t8 ⊢
                          clear hW hg_t7
                          have ne_t8_t7 := Ne.symm ne_t7_t8
                          have t7 := t7_
                          refine hK _ _ (SF.out _ B1.out) ?_
                          clear hK K
                          refine tree_one (i := 3) (by kernel_rfl) rfl ?_
                          · refine ⟨_, rfl, fun K hK => ?_⟩
                            go_wp2_with (go_at_call 16; refine (ENX.out _ (then_ BW8.out B1.out BW8.out.size)).mono ?_; rintro e wt26 ⟨rfl, bt26⟩; replace bt26 := Lib.hid bt26)
                            replace B1 := Lib.hid (then_ B1.out bt26.out B1.out.size)
                            replace t8 := Lib.hid (t8.out.keep bt26.out)
                            replace t7 := Lib.hid (t7.out.keep bt26.out)
                            refine hK _ _ (SF.out _ B1.out) ?_
                            clear hK K
                            refine tree_pure (i := 4) (v := ?_) rfl rfl (by kernel_rfl) (by kernel_rfl) (by kernel_rfl) rfl (fun W hS => ?_) (SF.out _ B1.out) ?_
                            rotate_left
                            · conv => lhs; simp [go_sem]
                              first | done | exact rfl
                            simp only [Act.put, List.getElem_toArray, List.getElem_cons_zero, List.getElem_cons_succ, List.setIfInBounds_toArray, List.set_cons_zero, List.set_cons_succ]
                            refine tree_pure (i := 5) (v := ?_) rfl rfl (by kernel_rfl) (by kernel_rfl) (by kernel_rfl) rfl (fun W hS => ?_) (SF.out _ B1.out) ?_
                            rotate_left
                            · conv => lhs; simp [go_sem]
                              first | done | exact rfl
                            simp only [Act.put, List.getElem_toArray, List.getElem_cons_zero, List.getElem_cons_succ, List.setIfInBounds_toArray, List.set_cons_zero, List.set_cons_succ]
                            refine tree_pure (i := 6) (v := ?_) rfl rfl (by kernel_rfl) (by kernel_rfl) (by kernel_rfl) rfl (fun W hS => ?_) (SF.out _ B1.out) ?_
                            rotate_left
                            · conv => lhs; simp [go_sem]
                              first | done | exact rfl
                            simp only [Act.put, List.getElem_toArray, List.getElem_cons_zero, List.getElem_cons_succ, List.setIfInBounds_toArray, List.set_cons_zero, List.set_cons_succ]
                            refine tree_pure (i := 7) (v := ?_) rfl rfl (by kernel_rfl) (by kernel_rfl) (by kernel_rfl) rfl (fun W hS => ?_) (SF.out _ B1.out) ?_
                            rotate_left
                            · conv => lhs; simp [go_sem]
                              first | done | exact rfl
                            simp only [Act.put, List.getElem_toArray, List.getElem_cons_zero, List.getElem_cons_succ, List.setIfInBounds_toArray, List.set_cons_zero, List.set_cons_succ]
                            refine tree_one (i := 10) (by kernel_rfl) rfl ?_
                            · refine ⟨_, rfl, fun K hK => ?_⟩
                              obtain ⟨fz1, fz2, fz3⟩ := t7.out.at_
                              go_wp2
                              clear fz1 fz2 fz3
                              have t7_f : Hid (Own (World.setCell (World.setCell (World.setCell wt26 ⟨gb_t7, 0, none⟩ (.int .i64 a1)) ⟨gb_t7, 1, none⟩ (.int .i64 a2)) ⟨gb_t7, 2, none⟩ (.int .i64 a3)) gb_t7 39 #[.int .i64 a1, .int .i64 a2, .int .i64 a3]) := Lib.hid ((((t7.out.put 0 _).put 1 _).put 2 _).as (by simp))
                              have t8_g : Hid (Own (World.setCell (World.setCell (World.setCell wt26 ⟨gb_t7, 0, none⟩ (.int .i64 a1)) ⟨gb_t7, 1, none⟩ (.int .i64 a2)) ⟨gb_t7, 2, none⟩ (.int .i64 a3)) gb_t8 39 #[.int .i64 0, .int .i64 0, .int .i64 0]) := Lib.hid (((t8.out.apart ne_t8_t7 _ _).apart ne_t8_t7 _ _).apart ne_t8_t7 _ _)
                              have BF_ : Hid (Below W8.heap.size W8 (World.setCell (World.setCell (World.setCell wt26 ⟨gb_t7, 0, none⟩ (.int .i64 a1)) ⟨gb_t7, 1, none⟩ (.int .i64 a2)) ⟨gb_t7, 2, none⟩ (.int .i64 a3))) := Lib.hid (Below.setCell (Below.setCell (Below.setCell B1.out (p := ⟨gb_t7, 0, none⟩) (t7_lo.out) _) (p := ⟨gb_t7, 1, none⟩) (t7_lo.out) _) (p := ⟨gb_t7, 2, none⟩) (t7_lo.out) _)
                              generalize hWF_ : (World.setCell (World.setCell (World.setCell wt26 ⟨gb_t7, 0, none⟩ (.int .i64 a1)) ⟨gb_t7, 1, none⟩ (.int .i64 a2)) ⟨gb_t7, 2, none⟩ (.int .i64 a3)) = wt27 at t7_f BF_ t8_g ⊢
                              clear hWF_
                              have BF := BF_
                              have t8_f := t8_g
                              refine hK _ _ (SF.out _ BF.out) ?_
                              clear hK K
                              refine tree_one (i := 11) (by kernel_rfl) rfl ?_
                              · refine ⟨_, rfl, fun K hK => ?_⟩
                                obtain ⟨fz1, fz2, fz3⟩ := t8_f.out.at_
                                go_wp2
                                clear fz1 fz2 fz3
                                have t8_f : Hid (Own (World.setCell (World.setCell (World.setCell wt27 ⟨gb_t8, 0, none⟩ (.int .i64 b1)) ⟨gb_t8, 1, none⟩ (.int .i64 b2)) ⟨gb_t8, 2, none⟩ (.int .i64 b3)) gb_t8 39 #[.int .i64 b1, .int .i64 b2, .int .i64 b3]) := Lib.hid ((((t8_f.out.put 0 _).put 1 _).put 2 _).as (by simp))
                                have t7_g : Hid (Own (World.setCell (World.setCell (World.setCell wt27 ⟨gb_t8, 0, none⟩ (.int .i64 b1)) ⟨gb_t8, 1, none⟩ (.int .i64 b2)) ⟨gb_t8, 2, none⟩ (.int .i64 b3)) gb_t7 39 #[.int .i64 a1, .int .i64 a2, .int .i64 a3]) := Lib.hid (((t7_f.out.apart ne_t7_t8 _ _).apart ne_t7_t8 _ _).apart ne_t7_t8 _ _)
                                have BF_ : Hid (Below W8.heap.size W8 (World.setCell (World.setCell (World.setCell wt27 ⟨gb_t8, 0, none⟩ (.int .i64 b1)) ⟨gb_t8, 1, none⟩ (.int .i64 b2)) ⟨gb_t8, 2, none⟩ (.int .i64 b3))) := Lib.hid (Below.setCell (Below.setCell (Below.setCell BF.out (p := ⟨gb_t8, 0, none⟩) (t8_lo.out) _) (p := ⟨gb_t8, 1, none⟩) (t8_lo.out) _) (p := ⟨gb_t8, 2, none⟩) (t8_lo.out) _)
                                generalize hWF_ : (World.setCell (World.setCell (World.setCell wt27 ⟨gb_t8, 0, none⟩ (.int .i64 b1)) ⟨gb_t8, 1, none⟩ (.int .i64 b2)) ⟨gb_t8, 2, none⟩ (.int .i64 b3)) = wt28 at t8_f BF_ t7_g ⊢
                                clear hWF_
                                have BF := BF_
                                have t7_f := t7_g
                                refine hK _ _ (SF.out _ BF.out) ?_
                                clear hK K
                                refine tree_pure (i := 12) (v := ?_) rfl rfl (by kernel_rfl) (by kernel_rfl) (by kernel_rfl) rfl (fun W hS => ?_) (SF.out _ BF.out) ?_
                                rotate_left
                                · conv => lhs; simp [go_sem]
                                  first | done | exact rfl
                                simp only [Act.put, List.getElem_toArray, List.getElem_cons_zero, List.getElem_cons_succ, List.setIfInBounds_toArray, List.set_cons_zero, List.set_cons_succ]
                                refine tree_end (by kernel_rfl) ?_
                                go_wp2_with fail
                                go_meet
                                exact ⟨_, _, rfl, rfl, rfl, t8_f, BF⟩
                    · refine ⟨_, rfl, fun K hK => ?_⟩
                      go_wp2
                      obtain ⟨wt29, hW⟩ : ∃ X, X = World.alloc Wd0 (.cells #[.int .i64 0, .int .i64 0, .int .i64 0] 39) := ⟨_, rfl⟩
                      have bt29 : Hid (Below (Wd0).heap.size (Wd0) wt29) := Lib.hid (by rw [hW]; exact bx1 _ _ _)
                      have t7_ : Hid (Own wt29 (Wd0).heap.size 39 #[.int .i64 0, .int .i64 0, .int .i64 0]) := Lib.hid (by rw [hW]; exact Own.made _ _ _)
                      have t7_lo : Hid (W8.heap.size ≤ (Wd0).heap.size) := Lib.hid B1.out.size
                      replace B1 := Lib.hid (then_ B1.out bt29.out B1.out.size)
                      rw [← hW]
                      obtain ⟨gb_t7, hg_t7⟩ : ∃ g, g = (Wd0).heap.size := ⟨_, rfl⟩
                      rw [← hg_t7] at t7_ t7_lo  ⊢
                      clear hW hg_t7
                      have t7 := t7_
                      refine hK _ _ (SF.out _ B1.out) ?_
                      clear hK K
                      refine tree_two (i := 1) (k := 9) (by kernel_rfl) rfl rfl ?_ ?_
                      · refine ⟨_, rfl, fun K hK => ?_⟩
                        go_wp2_with (go_at_call 11; refine (PL.out _ (then_ BW8.out B1.out BW8.out.size)).mono ?_; rintro e wt30 ⟨rfl, bt30⟩; replace bt30 := Lib.hid bt30)
                        replace B1 := Lib.hid (then_ B1.out bt30.out B1.out.size)
                        replace t7 := Lib.hid (t7.out.keep bt30.out)
                        refine hK _ _ (SF.out _ B1.out) ?_
                        clear hK K
                        refine tree_two (i := 3) (k := 9) (by kernel_rfl) rfl rfl ?_ ?_
                        · refine ⟨_, rfl, fun K hK => ?_⟩
                          go_wp2_with (go_at_call 16; refine (ENX.out _ (then_ BW8.out B1.out BW8.out.size)).mono ?_; rintro e wt31 ⟨rfl, bt31⟩; replace bt31 := Lib.hid bt31)
                          replace B1 := Lib.hid (then_ B1.out bt31.out B1.out.size)
                          replace t7 := Lib.hid (t7.out.keep bt31.out)
                          refine hK _ _ (SF.out _ B1.out) ?_
                          clear hK K
                          refine tree_pure (i := 4) (v := ?_) rfl rfl (by kernel_rfl) (by kernel_rfl) (by kernel_rfl) rfl (fun W hS => ?_) (SF.out _ B1.out) ?_
                          rotate_left
                          · conv => lhs; simp [go_sem]
                            first | done | exact rfl
                          simp only [Act.put, List.getElem_toArray, List.getElem_cons_zero, List.getElem_cons_succ, List.setIfInBounds_toArray, List.set_cons_zero, List.set_cons_succ]
                          refine tree_pure (i := 5) (v := ?_) rfl rfl (by kernel_rfl) (by kernel_rfl) (by kernel_rfl) rfl (fun W hS => ?_) (SF.out _ B1.out) ?_
                          rotate_left
                          · conv => lhs; simp [go_sem]
                            first | done | exact rfl
                          simp only [Act.put, List.getElem_toArray, List.getElem_cons_zero, List.getElem_cons_succ, List.setIfInBounds_toArray, List.set_cons_zero, List.set_cons_succ]
                          refine tree_pure (i := 6) (v := ?_) rfl rfl (by kernel_rfl) (by kernel_rfl) (by kernel_rfl) rfl (fun W hS => ?_) (SF.out _ B1.out) ?_
                          rotate_left
                          · conv => lhs; simp [go_sem]
                            first | done | exact rfl
                          simp only [Act.put, List.getElem_toArray, List.getElem_cons_zero, List.getElem_cons_succ, List.setIfInBounds_toArray, List.set_cons_zero, List.set_cons_succ]
                          refine tree_pure (i := 7) (v := ?_) rfl rfl (by kernel_rfl) (by kernel_rfl) (by kernel_rfl) rfl (fun W hS => ?_) (SF.out _ B1.out) ?_
                          rotate_left
                          · conv => lhs; simp [go_sem]
                            first | done | exact rfl
                          simp only [Act.put, List.getElem_toArray, List.getElem_cons_zero, List.getElem_cons_succ, List.setIfInBounds_toArray, List.set_cons_zero, List.set_cons_succ]
                          refine tree_one (i := 9) (by kernel_rfl) rfl ?_
                          · refine ⟨_, rfl, fun K hK => ?_⟩
                            go_wp2
                            obtain ⟨wt32, hW⟩ : ∃ X, X = World.alloc wt31 (.cells #[.int .i64 0, .int .i64 0, .int .i64 0] 39) := ⟨_, rfl⟩
                            have bt32 : Hid (Below (wt31).heap.size (wt31) wt32) := Lib.hid (by rw [hW]; exact bx1 _ _ _)
                            have t8_ : Hid (Own wt32 (wt31).heap.size 39 #[.int .i64 0, .int .i64 0, .int .i64 0]) := Lib.hid (by rw [hW]; exact Own.made _ _ _)
                            have t8_lo : Hid (W8.heap.size ≤ (wt31).heap.size) := Lib.hid B1.out.size
                            have ne_t8_t7 : (wt31).heap.size ≠ gb_t7 := fun e => by have := t7.out.in_; omega
                            replace B1 := Lib.hid (then_ B1.out bt32.out B1.out.size)
                            replace t7 := Lib.hid (t7.out.keep bt32.out)
                            rw [← hW]
                            obtain ⟨gb_t8, hg_t8⟩ : ∃ g, g = (wt31).heap.size := ⟨_, rfl⟩
                            rw [← hg_t8] at t8_ t8_lo ne_t8_t7 ⊢
                            clear hW hg_t8
                            have ne_t7_t8 := Ne.symm ne_t8_t7
                            have t8 := t8_
                            refine hK _ _ (SF.out _ B1.out) ?_
                            clear hK K
                            refine tree_one (i := 10) (by kernel_rfl) rfl ?_
                            · refine ⟨_, rfl, fun K hK => ?_⟩
                              obtain ⟨fz1, fz2, fz3⟩ := t7.out.at_
                              go_wp2
                              clear fz1 fz2 fz3
                              have t7_f : Hid (Own (World.setCell (World.setCell (World.setCell wt32 ⟨gb_t7, 0, none⟩ (.int .i64 a1)) ⟨gb_t7, 1, none⟩ (.int .i64 a2)) ⟨gb_t7, 2, none⟩ (.int .i64 a3)) gb_t7 39 #[.int .i64 a1, .int .i64 a2, .int .i64 a3]) := Lib.hid ((((t7.out.put 0 _).put 1 _).put 2 _).as (by simp))
                              have t8_g : Hid (Own (World.setCell (World.setCell (World.setCell wt32 ⟨gb_t7, 0, none⟩ (.int .i64 a1)) ⟨gb_t7, 1, none⟩ (.int .i64 a2)) ⟨gb_t7, 2, none⟩ (.int .i64 a3)) gb_t8 39 #[.int .i64 0, .int .i64 0, .int .i64 0]) := Lib.hid (((t8.out.apart ne_t8_t7 _ _).apart ne_t8_t7 _ _).apart ne_t8_t7 _ _)
                              have BF_ : Hid (Below W8.heap.size W8 (World.setCell (World.setCell (World.setCell wt32 ⟨gb_t7, 0, none⟩ (.int .i64 a1)) ⟨gb_t7, 1, none⟩ (.int .i64 a2)) ⟨gb_t7, 2, none⟩ (.int .i64 a3))) := Lib.hid (Below.setCell (Below.setCell (Below.setCell B1.out (p := ⟨gb_t7, 0, none⟩) (t7_lo.out) _) (p := ⟨gb_t7, 1, none⟩) (t7_lo.out) _) (p := ⟨gb_t7, 2, none⟩) (t7_lo.out) _)
                              generalize hWF_ : (World.setCell (World.setCell (World.setCell wt32 ⟨gb_t7, 0, none⟩ (.int .i64 a1)) ⟨gb_t7, 1, none⟩ (.int .i64 a2)) ⟨gb_t7, 2, none⟩ (.int .i64 a3)) = wt33 at t7_f BF_ t8_g ⊢
                              clear hWF_
                              have BF := BF_
                              have t8_f := t8_g
                              refine hK _ _ (SF.out _ BF.out) ?_
                              clear hK K
                              refine tree_one (i := 11) (by kernel_rfl) rfl ?_
                              · refine ⟨_, rfl, fun K hK => ?_⟩
                                obtain ⟨fz1, fz2, fz3⟩ := t8_f.out.at_
                                go_wp2
                                clear fz1 fz2 fz3
                                have t8_f : Hid (Own (World.setCell (World.setCell (World.setCell wt33 ⟨gb_t8, 0, none⟩ (.int .i64 b1)) ⟨gb_t8, 1, none⟩ (.int .i64 b2)) ⟨gb_t8, 2, none⟩ (.int .i64 b3)) gb_t8 39 #[.int .i64 b1, .int .i64 b2, .int .i64 b3]) := Lib.hid ((((t8_f.out.put 0 _).put 1 _).put 2 _).as (by simp))
                                have t7_g : Hid (Own (World.setCell (World.setCell (World.setCell wt33 ⟨gb_t8, 0, none⟩ (.int .i64 b1)) ⟨gb_t8, 1, none⟩ (.int .i64 b2)) ⟨gb_t8, 2, none⟩ (.int .i64 b3)) gb_t7 39 #[.int .i64 a1, .int .i64 a2, .int .i64 a3]) := Lib.hid (((t7_f.out.apart ne_t7_t8 _ _).apart ne_t7_t8 _ _).apart ne_t7_t8 _ _)
                                have BF_ : Hid (Below W8.heap.size W8 (World.setCell (World.setCell (World.setCell wt33 ⟨gb_t8, 0, none⟩ (.int .i64 b1)) ⟨gb_t8, 1, none⟩ (.int .i64 b2)) ⟨gb_t8, 2, none⟩ (.int .i64 b3))) := Lib.hid (Below.setCell (Below.setCell (Below.setCell BF.out (p := ⟨gb_t8, 0, none⟩) (t8_lo.out) _) (p := ⟨gb_t8, 1, none⟩) (t8_lo.out) _) (p := ⟨gb_t8, 2, none⟩) (t8_lo.out) _)
                                generalize hWF_ : (World.setCell (World.setCell (World.setCell wt33 ⟨gb_t8, 0, none⟩ (.int .i64 b1)) ⟨gb_t8, 1, none⟩ (.int .i64 b2)) ⟨gb_t8, 2, none⟩ (.int .i64 b3)) = wt34 at t8_f BF_ t7_g ⊢
                                clear hWF_
                                have BF := BF_
                                have t7_f := t7_g
                                refine hK _ _ (SF.out _ BF.out) ?_
                                clear hK K
                                refine tree_pure (i := 12) (v := ?_) rfl rfl (by kernel_rfl) (by kernel_rfl) (by kernel_rfl) rfl (fun W hS => ?_) (SF.out _ BF.out) ?_
                                rotate_left
                                · conv => lhs; simp [go_sem]
                                  first | done | exact rfl
                                simp only [Act.put, List.getElem_toArray, List.getElem_cons_zero, List.getElem_cons_succ, List.setIfInBounds_toArray, List.set_cons_zero, List.set_cons_succ]
                                refine tree_end (by kernel_rfl) ?_
                                go_wp2_with fail
                                go_meet
                                exact ⟨_, _, rfl, rfl, rfl, t8_f, BF⟩
                        · refine ⟨_, rfl, fun K hK => ?_⟩
                          go_wp2
                          obtain ⟨wt35, hW⟩ : ∃ X, X = World.alloc wt30 (.cells #[.int .i64 0, .int .i64 0, .int .i64 0] 39) := ⟨_, rfl⟩
                          have bt35 : Hid (Below (wt30).heap.size (wt30) wt35) := Lib.hid (by rw [hW]; exact bx1 _ _ _)
                          have t8_ : Hid (Own wt35 (wt30).heap.size 39 #[.int .i64 0, .int .i64 0, .int .i64 0]) := Lib.hid (by rw [hW]; exact Own.made _ _ _)
                          have t8_lo : Hid (W8.heap.size ≤ (wt30).heap.size) := Lib.hid B1.out.size
                          have ne_t8_t7 : (wt30).heap.size ≠ gb_t7 := fun e => by have := t7.out.in_; omega
                          replace B1 := Lib.hid (then_ B1.out bt35.out B1.out.size)
                          replace t7 := Lib.hid (t7.out.keep bt35.out)
                          rw [← hW]
                          obtain ⟨gb_t8, hg_t8⟩ : ∃ g, g = (wt30).heap.size := ⟨_, rfl⟩
                          rw [← hg_t8] at t8_ t8_lo ne_t8_t7 ⊢
                          clear hW hg_t8
                          have ne_t7_t8 := Ne.symm ne_t8_t7
                          have t8 := t8_
                          refine hK _ _ (SF.out _ B1.out) ?_
                          clear hK K
                          refine tree_one (i := 3) (by kernel_rfl) rfl ?_
                          · refine ⟨_, rfl, fun K hK => ?_⟩
                            go_wp2_with (go_at_call 16; refine (ENX.out _ (then_ BW8.out B1.out BW8.out.size)).mono ?_; rintro e wt36 ⟨rfl, bt36⟩; replace bt36 := Lib.hid bt36)
                            replace B1 := Lib.hid (then_ B1.out bt36.out B1.out.size)
                            replace t7 := Lib.hid (t7.out.keep bt36.out)
                            replace t8 := Lib.hid (t8.out.keep bt36.out)
                            refine hK _ _ (SF.out _ B1.out) ?_
                            clear hK K
                            refine tree_pure (i := 4) (v := ?_) rfl rfl (by kernel_rfl) (by kernel_rfl) (by kernel_rfl) rfl (fun W hS => ?_) (SF.out _ B1.out) ?_
                            rotate_left
                            · conv => lhs; simp [go_sem]
                              first | done | exact rfl
                            simp only [Act.put, List.getElem_toArray, List.getElem_cons_zero, List.getElem_cons_succ, List.setIfInBounds_toArray, List.set_cons_zero, List.set_cons_succ]
                            refine tree_pure (i := 5) (v := ?_) rfl rfl (by kernel_rfl) (by kernel_rfl) (by kernel_rfl) rfl (fun W hS => ?_) (SF.out _ B1.out) ?_
                            rotate_left
                            · conv => lhs; simp [go_sem]
                              first | done | exact rfl
                            simp only [Act.put, List.getElem_toArray, List.getElem_cons_zero, List.getElem_cons_succ, List.setIfInBounds_toArray, List.set_cons_zero, List.set_cons_succ]
                            refine tree_pure (i := 6) (v := ?_) rfl rfl (by kernel_rfl) (by kernel_rfl) (by kernel_rfl) rfl (fun W hS => ?_) (SF.out _ B1.out) ?_
                            rotate_left
                            · conv => lhs; simp [go_sem]
                              first | done | exact rfl
                            simp only [Act.put, List.getElem_toArray, List.getElem_cons_zero, List.getElem_cons_succ, List.setIfInBounds_toArray, List.set_cons_zero, List.set_cons_succ]
                            refine tree_pure (i := 7) (v := ?_) rfl rfl (by kernel_rfl) (by kernel_rfl) (by kernel_rfl) rfl (fun W hS => ?_) (SF.out _ B1.out) ?_
                            rotate_left
                            · conv => lhs; simp [go_sem]
                              first | done | exact rfl
                            simp only [Act.put, List.getElem_toArray, List.getElem_cons_zero, List.getElem_cons_succ, List.setIfInBounds_toArray, List.set_cons_zero, List.set_cons_succ]
                            refine tree_one (i := 10) (by kernel_rfl) rfl ?_
                            · refine ⟨_, rfl, fun K hK => ?_⟩
                              obtain ⟨fz1, fz2, fz3⟩ := t7.out.at_
                              go_wp2
                              clear fz1 fz2 fz3
                              have t7_f : Hid (Own (World.setCell (World.setCell (World.setCell wt36 ⟨gb_t7, 0, none⟩ (.int .i64 a1)) ⟨gb_t7, 1, none⟩ (.int .i64 a2)) ⟨gb_t7, 2, none⟩ (.int .i64 a3)) gb_t7 39 #[.int .i64 a1, .int .i64 a2, .int .i64 a3]) := Lib.hid ((((t7.out.put 0 _).put 1 _).put 2 _).as (by simp))
                              have t8_g : Hid (Own (World.setCell (World.setCell (World.setCell wt36 ⟨gb_t7, 0, none⟩ (.int .i64 a1)) ⟨gb_t7, 1, none⟩ (.int .i64 a2)) ⟨gb_t7, 2, none⟩ (.int .i64 a3)) gb_t8 39 #[.int .i64 0, .int .i64 0, .int .i64 0]) := Lib.hid (((t8.out.apart ne_t8_t7 _ _).apart ne_t8_t7 _ _).apart ne_t8_t7 _ _)
                              have BF_ : Hid (Below W8.heap.size W8 (World.setCell (World.setCell (World.setCell wt36 ⟨gb_t7, 0, none⟩ (.int .i64 a1)) ⟨gb_t7, 1, none⟩ (.int .i64 a2)) ⟨gb_t7, 2, none⟩ (.int .i64 a3))) := Lib.hid (Below.setCell (Below.setCell (Below.setCell B1.out (p := ⟨gb_t7, 0, none⟩) (t7_lo.out) _) (p := ⟨gb_t7, 1, none⟩) (t7_lo.out) _) (p := ⟨gb_t7, 2, none⟩) (t7_lo.out) _)
                              generalize hWF_ : (World.setCell (World.setCell (World.setCell wt36 ⟨gb_t7, 0, none⟩ (.int .i64 a1)) ⟨gb_t7, 1, none⟩ (.int .i64 a2)) ⟨gb_t7, 2, none⟩ (.int .i64 a3)) = wt37 at t7_f BF_ t8_g ⊢
                              clear hWF_
                              have BF := BF_
                              have t8_f := t8_g
                              refine hK _ _ (SF.out _ BF.out) ?_
                              clear hK K
                              refine tree_one (i := 11) (by kernel_rfl) rfl ?_
                              · refine ⟨_, rfl, fun K hK => ?_⟩
                                obtain ⟨fz1, fz2, fz3⟩ := t8_f.out.at_
                                go_wp2
                                clear fz1 fz2 fz3
                                have t8_f : Hid (Own (World.setCell (World.setCell (World.setCell wt37 ⟨gb_t8, 0, none⟩ (.int .i64 b1)) ⟨gb_t8, 1, none⟩ (.int .i64 b2)) ⟨gb_t8, 2, none⟩ (.int .i64 b3)) gb_t8 39 #[.int .i64 b1, .int .i64 b2, .int .i64 b3]) := Lib.hid ((((t8_f.out.put 0 _).put 1 _).put 2 _).as (by simp))
                                have t7_g : Hid (Own (World.setCell (World.setCell (World.setCell wt37 ⟨gb_t8, 0, none⟩ (.int .i64 b1)) ⟨gb_t8, 1, none⟩ (.int .i64 b2)) ⟨gb_t8, 2, none⟩ (.int .i64 b3)) gb_t7 39 #[.int .i64 a1, .int .i64 a2, .int .i64 a3]) := Lib.hid (((t7_f.out.apart ne_t7_t8 _ _).apart ne_t7_t8 _ _).apart ne_t7_t8 _ _)
                                have BF_ : Hid (Below W8.heap.size W8 (World.setCell (World.setCell (World.setCell wt37 ⟨gb_t8, 0, none⟩ (.int .i64 b1)) ⟨gb_t8, 1, none⟩ (.int .i64 b2)) ⟨gb_t8, 2, none⟩ (.int .i64 b3))) := Lib.hid (Below.setCell (Below.setCell (Below.setCell BF.out (p := ⟨gb_t8, 0, none⟩) (t8_lo.out) _) (p := ⟨gb_t8, 1, none⟩) (t8_lo.out) _) (p := ⟨gb_t8, 2, none⟩) (t8_lo.out) _)
                                generalize hWF_ : (World.setCell (World.setCell (World.setCell wt37 ⟨gb_t8, 0, none⟩ (.int .i64 b1)) ⟨gb_t8, 1, none⟩ (.int .i64 b2)) ⟨gb_t8, 2, none⟩ (.int .i64 b3)) = wt38 at t8_f BF_ t7_g ⊢
                                clear hWF_
                                have BF := BF_
                                have t7_f := t7_g
                                refine hK _ _ (SF.out _ BF.out) ?_
                                clear hK K
                                refine tree_pure (i := 12) (v := ?_) rfl rfl (by kernel_rfl) (by kernel_rfl) (by kernel_rfl) rfl (fun W hS => ?_) (SF.out _ BF.out) ?_
                                rotate_left
                                · conv => lhs; simp [go_sem]
                                  first | done | exact rfl
                                simp only [Act.put, List.getElem_toArray, List.getElem_cons_zero, List.getElem_cons_succ, List.setIfInBounds_toArray, List.set_cons_zero, List.set_cons_succ]
                                refine tree_end (by kernel_rfl) ?_
                                go_wp2_with fail
                                go_meet
                                exact ⟨_, _, rfl, rfl, rfl, t8_f, BF⟩
                      · refine ⟨_, rfl, fun K hK => ?_⟩
                        go_wp2
                        obtain ⟨wt39, hW⟩ : ∃ X, X = World.alloc wt29 (.cells #[.int .i64 0, .int .i64 0, .int .i64 0] 39) := ⟨_, rfl⟩
                        have bt39 : Hid (Below (wt29).heap.size (wt29) wt39) := Lib.hid (by rw [hW]; exact bx1 _ _ _)
                        have t8_ : Hid (Own wt39 (wt29).heap.size 39 #[.int .i64 0, .int .i64 0, .int .i64 0]) := Lib.hid (by rw [hW]; exact Own.made _ _ _)
                        have t8_lo : Hid (W8.heap.size ≤ (wt29).heap.size) := Lib.hid B1.out.size
                        have ne_t8_t7 : (wt29).heap.size ≠ gb_t7 := fun e => by have := t7.out.in_; omega
                        replace B1 := Lib.hid (then_ B1.out bt39.out B1.out.size)
                        replace t7 := Lib.hid (t7.out.keep bt39.out)
                        rw [← hW]
                        obtain ⟨gb_t8, hg_t8⟩ : ∃ g, g = (wt29).heap.size := ⟨_, rfl⟩
                        rw [← hg_t8] at t8_ t8_lo ne_t8_t7 ⊢
                        clear hW hg_t8
                        have ne_t7_t8 := Ne.symm ne_t8_t7
                        have t8 := t8_
                        refine hK _ _ (SF.out _ B1.out) ?_
                        clear hK K
                        refine tree_one (i := 1) (by kernel_rfl) rfl ?_
                        · refine ⟨_, rfl, fun K hK => ?_⟩
                          go_wp2_with (go_at_call 11; refine (PL.out _ (then_ BW8.out B1.out BW8.out.size)).mono ?_; rintro e wt40 ⟨rfl, bt40⟩; replace bt40 := Lib.hid bt40)
                          replace B1 := Lib.hid (then_ B1.out bt40.out B1.out.size)
                          replace t7 := Lib.hid (t7.out.keep bt40.out)
                          replace t8 := Lib.hid (t8.out.keep bt40.out)
                          refine hK _ _ (SF.out _ B1.out) ?_
                          clear hK K
                          refine tree_one (i := 3) (by kernel_rfl) rfl ?_
                          · refine ⟨_, rfl, fun K hK => ?_⟩
                            go_wp2_with (go_at_call 16; refine (ENX.out _ (then_ BW8.out B1.out BW8.out.size)).mono ?_; rintro e wt41 ⟨rfl, bt41⟩; replace bt41 := Lib.hid bt41)
                            replace B1 := Lib.hid (then_ B1.out bt41.out B1.out.size)
                            replace t7 := Lib.hid (t7.out.keep bt41.out)
                            replace t8 := Lib.hid (t8.out.keep bt41.out)
                            refine hK _ _ (SF.out _ B1.out) ?_
                            clear hK K
                            refine tree_pure (i := 4) (v := ?_) rfl rfl (by kernel_rfl) (by kernel_rfl) (by kernel_rfl) rfl (fun W hS => ?_) (SF.out _ B1.out) ?_
                            rotate_left
                            · conv => lhs; simp [go_sem]
                              first | done | exact rfl
                            simp only [Act.put, List.getElem_toArray, List.getElem_cons_zero, List.getElem_cons_succ, List.setIfInBounds_toArray, List.set_cons_zero, List.set_cons_succ]
                            refine tree_pure (i := 5) (v := ?_) rfl rfl (by kernel_rfl) (by kernel_rfl) (by kernel_rfl) rfl (fun W hS => ?_) (SF.out _ B1.out) ?_
                            rotate_left
                            · conv => lhs; simp [go_sem]
                              first | done | exact rfl
                            simp only [Act.put, List.getElem_toArray, List.getElem_cons_zero, List.getElem_cons_succ, List.setIfInBounds_toArray, List.set_cons_zero, List.set_cons_succ]
                            refine tree_pure (i := 6) (v := ?_) rfl rfl (by kernel_rfl) (by kernel_rfl) (by kernel_rfl) rfl (fun W hS => ?_) (SF.out _ B1.out) ?_
                            rotate_left
                            · conv => lhs; simp [go_sem]
                              first | done | exact rfl
                            simp only [Act.put, List.getElem_toArray, List.getElem_cons_zero, List.getElem_cons_succ, List.setIfInBounds_toArray, List.set_cons_zero, List.set_cons_succ]
                            refine tree_pure (i := 7) (v := ?_) rfl rfl (by kernel_rfl) (by kernel_rfl) (by kernel_rfl) rfl (fun W hS => ?_) (SF.out _ B1.out) ?_
                            rotate_left
                            · conv => lhs; simp [go_sem]
                              first | done | exact rfl
                            simp only [Act.put, List.getElem_toArray, List.getElem_cons_zero, List.getElem_cons_succ, List.setIfInBounds_toArray, List.set_cons_zero, List.set_cons_succ]
                            refine tree_one (i := 10) (by kernel_rfl) rfl ?_
                            · refine ⟨_, rfl, fun K hK => ?_⟩
                              obtain ⟨fz1, fz2, fz3⟩ := t7.out.at_
                              go_wp2
                              clear fz1 fz2 fz3
                              have t7_f : Hid (Own (World.setCell (World.setCell (World.setCell wt41 ⟨gb_t7, 0, none⟩ (.int .i64 a1)) ⟨gb_t7, 1, none⟩ (.int .i64 a2)) ⟨gb_t7, 2, none⟩ (.int .i64 a3)) gb_t7 39 #[.int .i64 a1, .int .i64 a2, .int .i64 a3]) := Lib.hid ((((t7.out.put 0 _).put 1 _).put 2 _).as (by simp))
                              have t8_g : Hid (Own (World.setCell (World.setCell (World.setCell wt41 ⟨gb_t7, 0, none⟩ (.int .i64 a1)) ⟨gb_t7, 1, none⟩ (.int .i64 a2)) ⟨gb_t7, 2, none⟩ (.int .i64 a3)) gb_t8 39 #[.int .i64 0, .int .i64 0, .int .i64 0]) := Lib.hid (((t8.out.apart ne_t8_t7 _ _).apart ne_t8_t7 _ _).apart ne_t8_t7 _ _)
                              have BF_ : Hid (Below W8.heap.size W8 (World.setCell (World.setCell (World.setCell wt41 ⟨gb_t7, 0, none⟩ (.int .i64 a1)) ⟨gb_t7, 1, none⟩ (.int .i64 a2)) ⟨gb_t7, 2, none⟩ (.int .i64 a3))) := Lib.hid (Below.setCell (Below.setCell (Below.setCell B1.out (p := ⟨gb_t7, 0, none⟩) (t7_lo.out) _) (p := ⟨gb_t7, 1, none⟩) (t7_lo.out) _) (p := ⟨gb_t7, 2, none⟩) (t7_lo.out) _)
                              generalize hWF_ : (World.setCell (World.setCell (World.setCell wt41 ⟨gb_t7, 0, none⟩ (.int .i64 a1)) ⟨gb_t7, 1, none⟩ (.int .i64 a2)) ⟨gb_t7, 2, none⟩ (.int .i64 a3)) = wt42 at t7_f BF_ t8_g ⊢
                              clear hWF_
                              have BF := BF_
                              have t8_f := t8_g
                              refine hK _ _ (SF.out _ BF.out) ?_
                              clear hK K
                              refine tree_one (i := 11) (by kernel_rfl) rfl ?_
                              · refine ⟨_, rfl, fun K hK => ?_⟩
                                obtain ⟨fz1, fz2, fz3⟩ := t8_f.out.at_
                                go_wp2
                                clear fz1 fz2 fz3
                                have t8_f : Hid (Own (World.setCell (World.setCell (World.setCell wt42 ⟨gb_t8, 0, none⟩ (.int .i64 b1)) ⟨gb_t8, 1, none⟩ (.int .i64 b2)) ⟨gb_t8, 2, none⟩ (.int .i64 b3)) gb_t8 39 #[.int .i64 b1, .int .i64 b2, .int .i64 b3]) := Lib.hid ((((t8_f.out.put 0 _).put 1 _).put 2 _).as (by simp))
                                have t7_g : Hid (Own (World.setCell (World.setCell (World.setCell wt42 ⟨gb_t8, 0, none⟩ (.int .i64 b1)) ⟨gb_t8, 1, none⟩ (.int .i64 b2)) ⟨gb_t8, 2, none⟩ (.int .i64 b3)) gb_t7 39 #[.int .i64 a1, .int .i64 a2, .int .i64 a3]) := Lib.hid (((t7_f.out.apart ne_t7_t8 _ _).apart ne_t7_t8 _ _).apart ne_t7_t8 _ _)
                                have BF_ : Hid (Below W8.heap.size W8 (World.setCell (World.setCell (World.setCell wt42 ⟨gb_t8, 0, none⟩ (.int .i64 b1)) ⟨gb_t8, 1, none⟩ (.int .i64 b2)) ⟨gb_t8, 2, none⟩ (.int .i64 b3))) := Lib.hid (Below.setCell (Below.setCell (Below.setCell BF.out (p := ⟨gb_t8, 0, none⟩) (t8_lo.out) _) (p := ⟨gb_t8, 1, none⟩) (t8_lo.out) _) (p := ⟨gb_t8, 2, none⟩) (t8_lo.out) _)
                                generalize hWF_ : (World.setCell (World.setCell (World.setCell wt42 ⟨gb_t8, 0, none⟩ (.int .i64 b1)) ⟨gb_t8, 1, none⟩ (.int .i64 b2)) ⟨gb_t8, 2, none⟩ (.int .i64 b3)) = wt43 at t8_f BF_ t7_g ⊢
                                clear hWF_
                                have BF := BF_
                                have t7_f := t7_g
                                refine hK _ _ (SF.out _ BF.out) ?_
                                clear hK K
                                refine tree_pure (i := 12) (v := ?_) rfl rfl (by kernel_rfl) (by kernel_rfl) (by kernel_rfl) rfl (fun W hS => ?_) (SF.out _ BF.out) ?_
                                rotate_left
                                · conv => lhs; simp [go_sem]
                                  first | done | exact rfl
                                simp only [Act.put, List.getElem_toArray, List.getElem_cons_zero, List.getElem_cons_succ, List.setIfInBounds_toArray, List.set_cons_zero, List.set_cons_succ]
                                refine tree_end (by kernel_rfl) ?_
                                go_wp2_with fail
                                go_meet
                                exact ⟨_, _, rfl, rfl, rfl, t8_f, BF⟩
                    · refine ⟨_, rfl, fun K hK => ?_⟩
                      go_wp2
                      obtain ⟨wt44, hW⟩ : ∃ X, X = World.alloc Wd0 (.cells #[.int .i64 0, .int .i64 0, .int .i64 0] 39) := ⟨_, rfl⟩
                      have bt44 : Hid (Below (Wd0).heap.size (Wd0) wt44) := Lib.hid (by rw [hW]; exact bx1 _ _ _)
                      have t8_ : Hid (Own wt44 (Wd0).heap.size 39 #[.int .i64 0, .int .i64 0, .int .i64 0]) := Lib.hid (by rw [hW]; exact Own.made _ _ _)
                      have t8_lo : Hid (W8.heap.size ≤ (Wd0).heap.size) := Lib.hid B1.out.size
                      replace B1 := Lib.hid (then_ B1.out bt44.out B1.out.size)
                      rw [← hW]
                      obtain ⟨gb_t8, hg_t8⟩ : ∃ g, g = (Wd0).heap.size := ⟨_, rfl⟩
                      rw [← hg_t8] at t8_ t8_lo  ⊢
                      clear hW hg_t8
                      have t8 := t8_
                      refine hK _ _ (SF.out _ B1.out) ?_
                      clear hK K
                      refine tree_two (i := 1) (k := 8) (by kernel_rfl) rfl rfl ?_ ?_
                      · refine ⟨_, rfl, fun K hK => ?_⟩
                        go_wp2_with (go_at_call 11; refine (PL.out _ (then_ BW8.out B1.out BW8.out.size)).mono ?_; rintro e wt45 ⟨rfl, bt45⟩; replace bt45 := Lib.hid bt45)
                        replace B1 := Lib.hid (then_ B1.out bt45.out B1.out.size)
                        replace t8 := Lib.hid (t8.out.keep bt45.out)
                        refine hK _ _ (SF.out _ B1.out) ?_
                        clear hK K
                        refine tree_two (i := 3) (k := 8) (by kernel_rfl) rfl rfl ?_ ?_
                        · refine ⟨_, rfl, fun K hK => ?_⟩
                          go_wp2_with (go_at_call 16; refine (ENX.out _ (then_ BW8.out B1.out BW8.out.size)).mono ?_; rintro e wt46 ⟨rfl, bt46⟩; replace bt46 := Lib.hid bt46)
                          replace B1 := Lib.hid (then_ B1.out bt46.out B1.out.size)
                          replace t8 := Lib.hid (t8.out.keep bt46.out)
                          refine hK _ _ (SF.out _ B1.out) ?_
                          clear hK K
                          refine tree_pure (i := 4) (v := ?_) rfl rfl (by kernel_rfl) (by kernel_rfl) (by kernel_rfl) rfl (fun W hS => ?_) (SF.out _ B1.out) ?_
                          rotate_left
                          · conv => lhs; simp [go_sem]
                            first | done | exact rfl
                          simp only [Act.put, List.getElem_toArray, List.getElem_cons_zero, List.getElem_cons_succ, List.setIfInBounds_toArray, List.set_cons_zero, List.set_cons_succ]
                          refine tree_pure (i := 5) (v := ?_) rfl rfl (by kernel_rfl) (by kernel_rfl) (by kernel_rfl) rfl (fun W hS => ?_) (SF.out _ B1.out) ?_
                          rotate_left
                          · conv => lhs; simp [go_sem]
                            first | done | exact rfl
                          simp only [Act.put, List.getElem_toArray, List.getElem_cons_zero, List.getElem_cons_succ, List.setIfInBounds_toArray, List.set_cons_zero, List.set_cons_succ]
                          refine tree_pure (i := 6) (v := ?_) rfl rfl (by kernel_rfl) (by kernel_rfl) (by kernel_rfl) rfl (fun W hS => ?_) (SF.out _ B1.out) ?_
                          rotate_left
                          · conv => lhs; simp [go_sem]
                            first | done | exact rfl
                          simp only [Act.put, List.getElem_toArray, List.getElem_cons_zero, List.getElem_cons_succ, List.setIfInBounds_toArray, List.set_cons_zero, List.set_cons_succ]
                          refine tree_pure (i := 7) (v := ?_) rfl rfl (by kernel_rfl) (by kernel_rfl) (by kernel_rfl) rfl (fun W hS => ?_) (SF.out _ B1.out) ?_
                          rotate_left
                          · conv => lhs; simp [go_sem]
                            first | done | exact rfl
                          simp only [Act.put, List.getElem_toArray, List.getElem_cons_zero, List.getElem_cons_succ, List.setIfInBounds_toArray, List.set_cons_zero, List.set_cons_succ]
                          refine tree_one (i := 8) (by kernel_rfl) rfl ?_
                          · refine ⟨_, rfl, fun K hK => ?_⟩
                            go_wp2
                            obtain ⟨wt47, hW⟩ : ∃ X, X = World.alloc wt46 (.cells #[.int .i64 0, .int .i64 0, .int .i64 0] 39) := ⟨_, rfl⟩
                            have bt47 : Hid (Below (wt46).heap.size (wt46) wt47) := Lib.hid (by rw [hW]; exact bx1 _ _ _)
                            have t7_ : Hid (Own wt47 (wt46).heap.size 39 #[.int .i64 0, .int .i64 0, .int .i64 0]) := Lib.hid (by rw [hW]; exact Own.made _ _ _)
                            have t7_lo : Hid (W8.heap.size ≤ (wt46).heap.size) := Lib.hid B1.out.size
                            have ne_t7_t8 : (wt46).heap.size ≠ gb_t8 := fun e => by have := t8.out.in_; omega
                            replace B1 := Lib.hid (then_ B1.out bt47.out B1.out.size)
                            replace t8 := Lib.hid (t8.out.keep bt47.out)
                            rw [← hW]
                            obtain ⟨gb_t7, hg_t7⟩ : ∃ g, g = (wt46).heap.size := ⟨_, rfl⟩
                            rw [← hg_t7] at t7_ t7_lo ne_t7_t8 ⊢
                            clear hW hg_t7
                            have ne_t8_t7 := Ne.symm ne_t7_t8
                            have t7 := t7_
                            refine hK _ _ (SF.out _ B1.out) ?_
                            clear hK K
                            refine tree_one (i := 10) (by kernel_rfl) rfl ?_
                            · refine ⟨_, rfl, fun K hK => ?_⟩
                              obtain ⟨fz1, fz2, fz3⟩ := t7.out.at_
                              go_wp2
                              clear fz1 fz2 fz3
                              have t7_f : Hid (Own (World.setCell (World.setCell (World.setCell wt47 ⟨gb_t7, 0, none⟩ (.int .i64 a1)) ⟨gb_t7, 1, none⟩ (.int .i64 a2)) ⟨gb_t7, 2, none⟩ (.int .i64 a3)) gb_t7 39 #[.int .i64 a1, .int .i64 a2, .int .i64 a3]) := Lib.hid ((((t7.out.put 0 _).put 1 _).put 2 _).as (by simp))
                              have t8_g : Hid (Own (World.setCell (World.setCell (World.setCell wt47 ⟨gb_t7, 0, none⟩ (.int .i64 a1)) ⟨gb_t7, 1, none⟩ (.int .i64 a2)) ⟨gb_t7, 2, none⟩ (.int .i64 a3)) gb_t8 39 #[.int .i64 0, .int .i64 0, .int .i64 0]) := Lib.hid (((t8.out.apart ne_t8_t7 _ _).apart ne_t8_t7 _ _).apart ne_t8_t7 _ _)
                              have BF_ : Hid (Below W8.heap.size W8 (World.setCell (World.setCell (World.setCell wt47 ⟨gb_t7, 0, none⟩ (.int .i64 a1)) ⟨gb_t7, 1, none⟩ (.int .i64 a2)) ⟨gb_t7, 2, none⟩ (.int .i64 a3))) := Lib.hid (Below.setCell (Below.setCell (Below.setCell B1.out (p := ⟨gb_t7, 0, none⟩) (t7_lo.out) _) (p := ⟨gb_t7, 1, none⟩) (t7_lo.out) _) (p := ⟨gb_t7, 2, none⟩) (t7_lo.out) _)
                              generalize hWF_ : (World.setCell (World.setCell (World.setCell wt47 ⟨gb_t7, 0, none⟩ (.int .i64 a1)) ⟨gb_t7, 1, none⟩ (.int .i64 a2)) ⟨gb_t7, 2, none⟩ (.int .i64 a3)) = wt48 at t7_f BF_ t8_g ⊢
                              clear hWF_
                              have BF := BF_
                              have t8_f := t8_g
                              refine hK _ _ (SF.out _ BF.out) ?_
                              clear hK K
                              refine tree_one (i := 11) (by kernel_rfl) rfl ?_
                              · refine ⟨_, rfl, fun K hK => ?_⟩
                                obtain ⟨fz1, fz2, fz3⟩ := t8_f.out.at_
                                go_wp2
                                clear fz1 fz2 fz3
                                have t8_f : Hid (Own (World.setCell (World.setCell (World.setCell wt48 ⟨gb_t8, 0, none⟩ (.int .i64 b1)) ⟨gb_t8, 1, none⟩ (.int .i64 b2)) ⟨gb_t8, 2, none⟩ (.int .i64 b3)) gb_t8 39 #[.int .i64 b1, .int .i64 b2, .int .i64 b3]) := Lib.hid ((((t8_f.out.put 0 _).put 1 _).put 2 _).as (by simp))
                                have t7_g : Hid (Own (World.setCell (World.setCell (World.setCell wt48 ⟨gb_t8, 0, none⟩ (.int .i64 b1)) ⟨gb_t8, 1, none⟩ (.int .i64 b2)) ⟨gb_t8, 2, none⟩ (.int .i64 b3)) gb_t7 39 #[.int .i64 a1, .int .i64 a2, .int .i64 a3]) := Lib.hid (((t7_f.out.apart ne_t7_t8 _ _).apart ne_t7_t8 _ _).apart ne_t7_t8 _ _)
                                have BF_ : Hid (Below W8.heap.size W8 (World.setCell (World.setCell (World.setCell wt48 ⟨gb_t8, 0, none⟩ (.int .i64 b1)) ⟨gb_t8, 1, none⟩ (.int .i64 b2)) ⟨gb_t8, 2, none⟩ (.int .i64 b3))) := Lib.hid (Below.setCell (Below.setCell (Below.setCell BF.out (p := ⟨gb_t8, 0, none⟩) (t8_lo.out) _) (p := ⟨gb_t8, 1, none⟩) (t8_lo.out) _) (p := ⟨gb_t8, 2, none⟩) (t8_lo.out) _)
                                generalize hWF_ : (World.setCell (World.setCell (World.setCell wt48 ⟨gb_t8, 0, none⟩ (.int .i64 b1)) ⟨gb_t8, 1, none⟩ (.int .i64 b2)) ⟨gb_t8, 2, none⟩ (.int .i64 b3)) = wt49 at t8_f BF_ t7_g ⊢
                                clear hWF_
                                have BF := BF_
                                have t7_f := t7_g
                                refine hK _ _ (SF.out _ BF.out) ?_
                                clear hK K
                                refine tree_pure (i := 12) (v := ?_) rfl rfl (by kernel_rfl) (by kernel_rfl) (by kernel_rfl) rfl (fun W hS => ?_) (SF.out _ BF.out) ?_
                                rotate_left
                                · conv => lhs; simp [go_sem]
                                  first | done | exact rfl
                                simp only [Act.put, List.getElem_toArray, List.getElem_cons_zero, List.getElem_cons_succ, List.setIfInBounds_toArray, List.set_cons_zero, List.set_cons_succ]
                                refine tree_end (by kernel_rfl) ?_
                                go_wp2_with fail
                                go_meet
                                exact ⟨_, _, rfl, rfl, rfl, t8_f, BF⟩
                        · refine ⟨_, rfl, fun K hK => ?_⟩
                          go_wp2
                          obtain ⟨wt50, hW⟩ : ∃ X, X = World.alloc wt45 (.cells #[.int .i64 0, .int .i64 0, .int .i64 0] 39) := ⟨_, rfl⟩
                          have bt50 : Hid (Below (wt45).heap.size (wt45) wt50) := Lib.hid (by rw [hW]; exact bx1 _ _ _)
                          have t7_ : Hid (Own wt50 (wt45).heap.size 39 #[.int .i64 0, .int .i64 0, .int .i64 0]) := Lib.hid (by rw [hW]; exact Own.made _ _ _)
                          have t7_lo : Hid (W8.heap.size ≤ (wt45).heap.size) := Lib.hid B1.out.size
                          have ne_t7_t8 : (wt45).heap.size ≠ gb_t8 := fun e => by have := t8.out.in_; omega
                          replace B1 := Lib.hid (then_ B1.out bt50.out B1.out.size)
                          replace t8 := Lib.hid (t8.out.keep bt50.out)
                          rw [← hW]
                          obtain ⟨gb_t7, hg_t7⟩ : ∃ g, g = (wt45).heap.size := ⟨_, rfl⟩
                          rw [← hg_t7] at t7_ t7_lo ne_t7_t8 ⊢
                          clear hW hg_t7
                          have ne_t8_t7 := Ne.symm ne_t7_t8
                          have t7 := t7_
                          refine hK _ _ (SF.out _ B1.out) ?_
                          clear hK K
                          refine tree_one (i := 3) (by kernel_rfl) rfl ?_
                          · refine ⟨_, rfl, fun K hK => ?_⟩
                            go_wp2_with (go_at_call 16; refine (ENX.out _ (then_ BW8.out B1.out BW8.out.size)).mono ?_; rintro e wt51 ⟨rfl, bt51⟩; replace bt51 := Lib.hid bt51)
                            replace B1 := Lib.hid (then_ B1.out bt51.out B1.out.size)
                            replace t8 := Lib.hid (t8.out.keep bt51.out)
                            replace t7 := Lib.hid (t7.out.keep bt51.out)
                            refine hK _ _ (SF.out _ B1.out) ?_
                            clear hK K
                            refine tree_pure (i := 4) (v := ?_) rfl rfl (by kernel_rfl) (by kernel_rfl) (by kernel_rfl) rfl (fun W hS => ?_) (SF.out _ B1.out) ?_
                            rotate_left
                            · conv => lhs; simp [go_sem]
                              first | done | exact rfl
                            simp only [Act.put, List.getElem_toArray, List.getElem_cons_zero, List.getElem_cons_succ, List.setIfInBounds_toArray, List.set_cons_zero, List.set_cons_succ]
                            refine tree_pure (i := 5) (v := ?_) rfl rfl (by kernel_rfl) (by kernel_rfl) (by kernel_rfl) rfl (fun W hS => ?_) (SF.out _ B1.out) ?_
                            rotate_left
                            · conv => lhs; simp [go_sem]
                              first | done | exact rfl
                            simp only [Act.put, List.getElem_toArray, List.getElem_cons_zero, List.getElem_cons_succ, List.setIfInBounds_toArray, List.set_cons_zero, List.set_cons_succ]
                            refine tree_pure (i := 6) (v := ?_) rfl rfl (by kernel_rfl) (by kernel_rfl) (by kernel_rfl) rfl (fun W hS => ?_) (SF.out _ B1.out) ?_
                            rotate_left
                            · conv => lhs; simp [go_sem]
                              first | done | exact rfl
                            simp only [Act.put, List.getElem_toArray, List.getElem_cons_zero, List.getElem_cons_succ, List.setIfInBounds_toArray, List.set_cons_zero, List.set_cons_succ]
                            refine tree_pure (i := 7) (v := ?_) rfl rfl (by kernel_rfl) (by kernel_rfl) (by kernel_rfl) rfl (fun W hS => ?_) (SF.out _ B1.out) ?_
                            rotate_left
                            · conv => lhs; simp [go_sem]
                              first | done | exact rfl
                            simp only [Act.put, List.getElem_toArray, List.getElem_cons_zero, List.getElem_cons_succ, List.setIfInBounds_toArray, List.set_cons_zero, List.set_cons_succ]
                            refine tree_one (i := 10) (by kernel_rfl) rfl ?_
                            · refine ⟨_, rfl, fun K hK => ?_⟩
                              obtain ⟨fz1, fz2, fz3⟩ := t7.out.at_
                              go_wp2
                              clear fz1 fz2 fz3
                              have t7_f : Hid (Own (World.setCell (World.setCell (World.setCell wt51 ⟨gb_t7, 0, none⟩ (.int .i64 a1)) ⟨gb_t7, 1, none⟩ (.int .i64 a2)) ⟨gb_t7, 2, none⟩ (.int .i64 a3)) gb_t7 39 #[.int .i64 a1, .int .i64 a2, .int .i64 a3]) := Lib.hid ((((t7.out.put 0 _).put 1 _).put 2 _).as (by simp))
                              have t8_g : Hid (Own (World.setCell (World.setCell (World.setCell wt51 ⟨gb_t7, 0, none⟩ (.int .i64 a1)) ⟨gb_t7, 1, none⟩ (.int .i64 a2)) ⟨gb_t7, 2, none⟩ (.int .i64 a3)) gb_t8 39 #[.int .i64 0, .int .i64 0, .int .i64 0]) := Lib.hid (((t8.out.apart ne_t8_t7 _ _).apart ne_t8_t7 _ _).apart ne_t8_t7 _ _)
                              have BF_ : Hid (Below W8.heap.size W8 (World.setCell (World.setCell (World.setCell wt51 ⟨gb_t7, 0, none⟩ (.int .i64 a1)) ⟨gb_t7, 1, none⟩ (.int .i64 a2)) ⟨gb_t7, 2, none⟩ (.int .i64 a3))) := Lib.hid (Below.setCell (Below.setCell (Below.setCell B1.out (p := ⟨gb_t7, 0, none⟩) (t7_lo.out) _) (p := ⟨gb_t7, 1, none⟩) (t7_lo.out) _) (p := ⟨gb_t7, 2, none⟩) (t7_lo.out) _)
                              generalize hWF_ : (World.setCell (World.setCell (World.setCell wt51 ⟨gb_t7, 0, none⟩ (.int .i64 a1)) ⟨gb_t7, 1, none⟩ (.int .i64 a2)) ⟨gb_t7, 2, none⟩ (.int .i64 a3)) = wt52 at t7_f BF_ t8_g ⊢
                              clear hWF_
                              have BF := BF_
                              have t8_f := t8_g
                              refine hK _ _ (SF.out _ BF.out) ?_
                              clear hK K
                              refine tree_one (i := 11) (by kernel_rfl) rfl ?_
                              · refine ⟨_, rfl, fun K hK => ?_⟩
                                obtain ⟨fz1, fz2, fz3⟩ := t8_f.out.at_
                                go_wp2
                                clear fz1 fz2 fz3
                                have t8_f : Hid (Own (World.setCell (World.setCell (World.setCell wt52 ⟨gb_t8, 0, none⟩ (.int .i64 b1)) ⟨gb_t8, 1, none⟩ (.int .i64 b2)) ⟨gb_t8, 2, none⟩ (.int .i64 b3)) gb_t8 39 #[.int .i64 b1, .int .i64 b2, .int .i64 b3]) := Lib.hid ((((t8_f.out.put 0 _).put 1 _).put 2 _).as (by simp))
                                have t7_g : Hid (Own (World.setCell (World.setCell (World.setCell wt52 ⟨gb_t8, 0, none⟩ (.int .i64 b1)) ⟨gb_t8, 1, none⟩ (.int .i64 b2)) ⟨gb_t8, 2, none⟩ (.int .i64 b3)) gb_t7 39 #[.int .i64 a1, .int .i64 a2, .int .i64 a3]) := Lib.hid (((t7_f.out.apart ne_t7_t8 _ _).apart ne_t7_t8 _ _).apart ne_t7_t8 _ _)
                                have BF_ : Hid (Below W8.heap.size W8 (World.setCell (World.setCell (World.setCell wt52 ⟨gb_t8, 0, none⟩ (.int .i64 b1)) ⟨gb_t8, 1, none⟩ (.int .i64 b2)) ⟨gb_t8, 2, none⟩ (.int .i64 b3))) := Lib.hid (Below.setCell (Below.setCell (Below.setCell BF.out (p := ⟨gb_t8, 0, none⟩) (t8_lo.out) _) (p := ⟨gb_t8, 1, none⟩) (t8_lo.out) _) (p := ⟨gb_t8, 2, none⟩) (t8_lo.out) _)
                                generalize hWF_ : (World.setCell (World.setCell (World.setCell wt52 ⟨gb_t8, 0, none⟩ (.int .i64 b1)) ⟨gb_t8, 1, none⟩ (.int .i64 b2)) ⟨gb_t8, 2, none⟩ (.int .i64 b3)) = wt53 at t8_f BF_ t7_g ⊢
                                clear hWF_
                                have BF := BF_
                                have t7_f := t7_g
                                refine hK _ _ (SF.out _ BF.out) ?_
                                clear hK K
                                refine tree_pure (i := 12) (v := ?_) rfl rfl (by kernel_rfl) (by kernel_rfl) (by kernel_rfl) rfl (fun W hS => ?_) (SF.out _ BF.out) ?_
                                rotate_left
                                · conv => lhs; simp [go_sem]
                                  first | done | exact rfl
                                simp only [Act.put, List.getElem_toArray, List.getElem_cons_zero, List.getElem_cons_succ, List.setIfInBounds_toArray, List.set_cons_zero, List.set_cons_succ]
                                refine tree_end (by kernel_rfl) ?_
                                go_wp2_with fail
                                go_meet
                                exact ⟨_, _, rfl, rfl, rfl, t8_f, BF⟩
                      · refine ⟨_, rfl, fun K hK => ?_⟩
                        go_wp2
                        obtain ⟨wt54, hW⟩ : ∃ X, X = World.alloc wt44 (.cells #[.int .i64 0, .int .i64 0, .int .i64 0] 39) := ⟨_, rfl⟩
                        have bt54 : Hid (Below (wt44).heap.size (wt44) wt54) := Lib.hid (by rw [hW]; exact bx1 _ _ _)
                        have t7_ : Hid (Own wt54 (wt44).heap.size 39 #[.int .i64 0, .int .i64 0, .int .i64 0]) := Lib.hid (by rw [hW]; exact Own.made _ _ _)
                        have t7_lo : Hid (W8.heap.size ≤ (wt44).heap.size) := Lib.hid B1.out.size
                        have ne_t7_t8 : (wt44).heap.size ≠ gb_t8 := fun e => by have := t8.out.in_; omega
                        replace B1 := Lib.hid (then_ B1.out bt54.out B1.out.size)
                        replace t8 := Lib.hid (t8.out.keep bt54.out)
                        rw [← hW]
                        obtain ⟨gb_t7, hg_t7⟩ : ∃ g, g = (wt44).heap.size := ⟨_, rfl⟩
                        rw [← hg_t7] at t7_ t7_lo ne_t7_t8 ⊢
                        clear hW hg_t7
                        have ne_t8_t7 := Ne.symm ne_t7_t8
                        have t7 := t7_
                        refine hK _ _ (SF.out _ B1.out) ?_
                        clear hK K
                        refine tree_one (i := 1) (by kernel_rfl) rfl ?_
                        · refine ⟨_, rfl, fun K hK => ?_⟩
                          go_wp2_with (go_at_call 11; refine (PL.out _ (then_ BW8.out B1.out BW8.out.size)).mono ?_; rintro e wt55 ⟨rfl, bt55⟩; replace bt55 := Lib.hid bt55)
                          replace B1 := Lib.hid (then_ B1.out bt55.out B1.out.size)
                          replace t8 := Lib.hid (t8.out.keep bt55.out)
                          replace t7 := Lib.hid (t7.out.keep bt55.out)
                          refine hK _ _ (SF.out _ B1.out) ?_
                          clear hK K
                          refine tree_one (i := 3) (by kernel_rfl) rfl ?_
                          · refine ⟨_, rfl, fun K hK => ?_⟩
                            go_wp2_with (go_at_call 16; refine (ENX.out _ (then_ BW8.out B1.out BW8.out.size)).mono ?_; rintro e wt56 ⟨rfl, bt56⟩; replace bt56 := Lib.hid bt56)
                            replace B1 := Lib.hid (then_ B1.out bt56.out B1.out.size)
                            replace t8 := Lib.hid (t8.out.keep bt56.out)
                            replace t7 := Lib.hid (t7.out.keep bt56.out)
                            refine hK _ _ (SF.out _ B1.out) ?_
                            clear hK K
                            refine tree_pure (i := 4) (v := ?_) rfl rfl (by kernel_rfl) (by kernel_rfl) (by kernel_rfl) rfl (fun W hS => ?_) (SF.out _ B1.out) ?_
                            rotate_left
                            · conv => lhs; simp [go_sem]
                              first | done | exact rfl
                            simp only [Act.put, List.getElem_toArray, List.getElem_cons_zero, List.getElem_cons_succ, List.setIfInBounds_toArray, List.set_cons_zero, List.set_cons_succ]
                            refine tree_pure (i := 5) (v := ?_) rfl rfl (by kernel_rfl) (by kernel_rfl) (by kernel_rfl) rfl (fun W hS => ?_) (SF.out _ B1.out) ?_
                            rotate_left
                            · conv => lhs; simp [go_sem]
                              first | done | exact rfl
                            simp only [Act.put, List.getElem_toArray, List.getElem_cons_zero, List.getElem_cons_succ, List.setIfInBounds_toArray, List.set_cons_zero, List.set_cons_succ]
                            refine tree_pure (i := 6) (v := ?_) rfl rfl (by kernel_rfl) (by kernel_rfl) (by kernel_rfl) rfl (fun W hS => ?_) (SF.out _ B1.out) ?_
                            rotate_left
                            · conv => lhs; simp [go_sem]
                              first | done | exact rfl
                            simp only [Act.put, List.getElem_toArray, List.getElem_cons_zero, List.getElem_cons_succ, List.setIfInBounds_toArray, List.set_cons_zero, List.set_cons_succ]
                            refine tree_pure (i := 7) (v := ?_) rfl rfl (by kernel_rfl) (by kernel_rfl) (by kernel_rfl) rfl (fun W hS => ?_) (SF.out _ B1.out) ?_
                            rotate_left
                            · conv => lhs; simp [go_sem]
                              first | done | exact rfl
                            simp only [Act.put, List.getElem_toArray, List.getElem_cons_zero, List.getElem_cons_succ, List.setIfInBounds_toArray, List.set_cons_zero, List.set_cons_succ]
                            refine tree_one (i := 10) (by kernel_rfl) rfl ?_
                            · refine ⟨_, rfl, fun K hK => ?_⟩
                              obtain ⟨fz1, fz2, fz3⟩ := t7.out.at_
                              go_wp2
                              clear fz1 fz2 fz3
                              have t7_f : Hid (Own (World.setCell (World.setCell (World.setCell wt56 ⟨gb_t7, 0, none⟩ (.int .i64 a1)) ⟨gb_t7, 1, none⟩ (.int .i64 a2)) ⟨gb_t7, 2, none⟩ (.int .i64 a3)) gb_t7 39 #[.int .i64 a1, .int .i64 a2, .int .i64 a3]) := Lib.hid ((((t7.out.put 0 _).put 1 _).put 2 _).as (by simp))
                              have t8_g : Hid (Own (World.setCell (World.setCell (World.setCell wt56 ⟨gb_t7, 0, none⟩ (.int .i64 a1)) ⟨gb_t7, 1, none⟩ (.int .i64 a2)) ⟨gb_t7, 2, none⟩ (.int .i64 a3)) gb_t8 39 #[.int .i64 0, .int .i64 0, .int .i64 0]) := Lib.hid (((t8.out.apart ne_t8_t7 _ _).apart ne_t8_t7 _ _).apart ne_t8_t7 _ _)
                              have BF_ : Hid (Below W8.heap.size W8 (World.setCell (World.setCell (World.setCell wt56 ⟨gb_t7, 0, none⟩ (.int .i64 a1)) ⟨gb_t7, 1, none⟩ (.int .i64 a2)) ⟨gb_t7, 2, none⟩ (.int .i64 a3))) := Lib.hid (Below.setCell (Below.setCell (Below.setCell B1.out (p := ⟨gb_t7, 0, none⟩) (t7_lo.out) _) (p := ⟨gb_t7, 1, none⟩) (t7_lo.out) _) (p := ⟨gb_t7, 2, none⟩) (t7_lo.out) _)
                              generalize hWF_ : (World.setCell (World.setCell (World.setCell wt56 ⟨gb_t7, 0, none⟩ (.int .i64 a1)) ⟨gb_t7, 1, none⟩ (.int .i64 a2)) ⟨gb_t7, 2, none⟩ (.int .i64 a3)) = wt57 at t7_f BF_ t8_g ⊢
                              clear hWF_
                              have BF := BF_
                              have t8_f := t8_g
                              refine hK _ _ (SF.out _ BF.out) ?_
                              clear hK K
                              refine tree_one (i := 11) (by kernel_rfl) rfl ?_
                              · refine ⟨_, rfl, fun K hK => ?_⟩
                                obtain ⟨fz1, fz2, fz3⟩ := t8_f.out.at_
                                go_wp2
                                clear fz1 fz2 fz3
                                have t8_f : Hid (Own (World.setCell (World.setCell (World.setCell wt57 ⟨gb_t8, 0, none⟩ (.int .i64 b1)) ⟨gb_t8, 1, none⟩ (.int .i64 b2)) ⟨gb_t8, 2, none⟩ (.int .i64 b3)) gb_t8 39 #[.int .i64 b1, .int .i64 b2, .int .i64 b3]) := Lib.hid ((((t8_f.out.put 0 _).put 1 _).put 2 _).as (by simp))
                                have t7_g : Hid (Own (World.setCell (World.setCell (World.setCell wt57 ⟨gb_t8, 0, none⟩ (.int .i64 b1)) ⟨gb_t8, 1, none⟩ (.int .i64 b2)) ⟨gb_t8, 2, none⟩ (.int .i64 b3)) gb_t7 39 #[.int .i64 a1, .int .i64 a2, .int .i64 a3]) := Lib.hid (((t7_f.out.apart ne_t7_t8 _ _).apart ne_t7_t8 _ _).apart ne_t7_t8 _ _)
                                have BF_ : Hid (Below W8.heap.size W8 (World.setCell (World.setCell (World.setCell wt57 ⟨gb_t8, 0, none⟩ (.int .i64 b1)) ⟨gb_t8, 1, none⟩ (.int .i64 b2)) ⟨gb_t8, 2, none⟩ (.int .i64 b3))) := Lib.hid (Below.setCell (Below.setCell (Below.setCell BF.out (p := ⟨gb_t8, 0, none⟩) (t8_lo.out) _) (p := ⟨gb_t8, 1, none⟩) (t8_lo.out) _) (p := ⟨gb_t8, 2, none⟩) (t8_lo.out) _)
                                generalize hWF_ : (World.setCell (World.setCell (World.setCell wt57 ⟨gb_t8, 0, none⟩ (.int .i64 b1)) ⟨gb_t8, 1, none⟩ (.int .i64 b2)) ⟨gb_t8, 2, none⟩ (.int .i64 b3)) = wt58 at t8_f BF_ t7_g ⊢
                                clear hWF_
                                have BF := BF_
                                have t7_f := t7_g
                                refine hK _ _ (SF.out _ BF.out) ?_
                                clear hK K
                                refine tree_pure (i := 12) (v := ?_) rfl rfl (by kernel_rfl) (by kernel_rfl) (by kernel_rfl) rfl (fun W hS => ?_) (SF.out _ BF.out) ?_
                                rotate_left
                                · conv => lhs; simp [go_sem]
                                  first | done | exact rfl
                                simp only [Act.put, List.getElem_toArray, List.getElem_cons_zero, List.getElem_cons_succ, List.setIfInBounds_toArray, List.set_cons_zero, List.set_cons_succ]
                                refine tree_end (by kernel_rfl) ?_
                                go_wp2_with fail
                                go_meet
                                exact ⟨_, _, rfl, rfl, rfl, t8_f, BF⟩
                case rest =>
                  obtain ⟨g10, g11, rfl, rfl, rfl, F11, BF9⟩ := hcut
                  have B9 := Lib.hid (then_ B8.out BF9.out B8.out.size)
                  have BQ9 := Lib.hid (then_ BQ8.out BF9.out BQ8.out.size)
                  have BW9 := Lib.hid (then_ B4.out B9.out B4.out.size)
                  have P9 := Lib.hid (P8.out.keep BF9.out)
                  have Q9 := Lib.hid (Q8.out.keep BF9.out)
                  have F9 := Lib.hid (F8.out.keep BF9.out)
                  clear SF B1 P8 Q8 F8 BF9 ENX B8 BQ8 BW8
                  obtain ⟨W9, hW9⟩ : ∃ W9, W9 = wc := ⟨_, rfl⟩
                  rw [← hW9] at F9 F11 B9 BQ9 BW9 P9 Q9
                  go_upto_region 14 with fail
                  rw [← hW9]
                  clear hW9
                  have SF : Hid (∀ W, Below W9.heap.size W9 W → Own W w.heap.size 25 #[.slice a n0 c, .slice a' m0 c'] ∧ Own W g8 42 #[.int .i64 ne, .bool nb]) := Lib.hid fun W hW => ⟨P9.out.keep hW, F9.out.keep hW⟩
                  have B1 : Hid (Below W9.heap.size W9 W9.drew) := Lib.hid (Below.refl _ _).drew
                  go_cut [13, 14, 15] (fun s7 s8 s9 wx => ∃ g13 g14, s7 = .pointer (some ⟨g13, 0, none⟩) ∧ s8 = .pointer (some ⟨g14, 0, none⟩) ∧ s9 = .bool true ∧ Hid (Own wx g13 39 #[.int .i64 b1, .int .i64 b2, .int .i64 b3]) ∧ Hid (Below W9.heap.size W9 wx))
                  case first =>
                    as_aux_lemma =>
                      go_upto_region 14 with fail
                      refine wp_region_tree (fun W => Own W w.heap.size 25 #[.slice a n0 c, .slice a' m0 c'] ∧ Own W g8 42 #[.int .i64 ne, .bool nb]) [0, 2, 4, 5, 6, 7, 12] [0, 2] 13 (by kernel_rfl) rfl ?_
                      generalize hD_ : W9.drew = Wd0 at B1 ⊢
                      clear hD_
                      refine tree_pure (i := 0) (v := ?_) rfl rfl (by kernel_rfl) (by kernel_rfl) (by kernel_rfl) rfl (fun W hS => ?_) (SF.out _ B1.out) ?_
                      rotate_left
                      · have hS := hS rfl
                        obtain ⟨hp1, hp2⟩ := hS
                        obtain ⟨u1, u2⟩ := half_at hp1
                        obtain ⟨u3, u4⟩ := half_at hp2
                        conv => lhs; simp [go_sem, *]
                        first | done | exact rfl
                      simp only [Act.put, List.getElem_toArray, List.getElem_cons_zero, List.getElem_cons_succ, List.setIfInBounds_toArray, List.set_cons_zero, List.set_cons_succ]
                      refine tree_pure (i := 2) (v := ?_) rfl rfl (by kernel_rfl) (by kernel_rfl) (by kernel_rfl) rfl (fun W hS => ?_) (SF.out _ B1.out) ?_
                      rotate_left
                      · have hS := hS rfl
                        obtain ⟨hp1, hp2⟩ := hS
                        obtain ⟨u1, u2⟩ := half_at hp1
                        obtain ⟨u3, u4⟩ := half_at hp2
                        conv => lhs; simp [go_sem, *]
                        first | done | exact rfl
                      simp only [Act.put, List.getElem_toArray, List.getElem_cons_zero, List.getElem_cons_succ, List.setIfInBounds_toArray, List.set_cons_zero, List.set_cons_succ]
                      refine tree_three (i := 1) (k := 8) (m := 9) (by kernel_rfl) rfl rfl rfl ?_ ?_ ?_
                      · refine ⟨_, rfl, fun K hK => ?_⟩
                        go_wp2_with (go_at_call 11; refine (PL.out _ (then_ BW9.out B1.out BW9.out.size)).mono ?_; rintro e wt1 ⟨rfl, bt1⟩; replace bt1 := Lib.hid bt1)
                        replace B1 := Lib.hid (then_ B1.out bt1.out B1.out.size)
                        refine hK _ _ (SF.out _ B1.out) ?_
                        clear hK K
                        refine tree_three (i := 3) (k := 8) (m := 9) (by kernel_rfl) rfl rfl rfl ?_ ?_ ?_
                        · refine ⟨_, rfl, fun K hK => ?_⟩
                          go_wp2_with (go_at_call 16; refine (ENY.out _ (then_ BW9.out B1.out BW9.out.size)).mono ?_; rintro e wt2 ⟨rfl, bt2⟩; replace bt2 := Lib.hid bt2)
                          replace B1 := Lib.hid (then_ B1.out bt2.out B1.out.size)
                          refine hK _ _ (SF.out _ B1.out) ?_
                          clear hK K
                          refine tree_pure (i := 4) (v := ?_) rfl rfl (by kernel_rfl) (by kernel_rfl) (by kernel_rfl) rfl (fun W hS => ?_) (SF.out _ B1.out) ?_
                          rotate_left
                          · conv => lhs; simp [go_sem]
                            first | done | exact rfl
                          simp only [Act.put, List.getElem_toArray, List.getElem_cons_zero, List.getElem_cons_succ, List.setIfInBounds_toArray, List.set_cons_zero, List.set_cons_succ]
                          refine tree_pure (i := 5) (v := ?_) rfl rfl (by kernel_rfl) (by kernel_rfl) (by kernel_rfl) rfl (fun W hS => ?_) (SF.out _ B1.out) ?_
                          rotate_left
                          · conv => lhs; simp [go_sem]
                            first | done | exact rfl
                          simp only [Act.put, List.getElem_toArray, List.getElem_cons_zero, List.getElem_cons_succ, List.setIfInBounds_toArray, List.set_cons_zero, List.set_cons_succ]
                          refine tree_pure (i := 6) (v := ?_) rfl rfl (by kernel_rfl) (by kernel_rfl) (by kernel_rfl) rfl (fun W hS => ?_) (SF.out _ B1.out) ?_
                          rotate_left
                          · conv => lhs; simp [go_sem]
                            first | done | exact rfl
                          simp only [Act.put, List.getElem_toArray, List.getElem_cons_zero, List.getElem_cons_succ, List.setIfInBounds_toArray, List.set_cons_zero, List.set_cons_succ]
                          refine tree_pure (i := 7) (v := ?_) rfl rfl (by kernel_rfl) (by kernel_rfl) (by kernel_rfl) rfl (fun W hS => ?_) (SF.out _ B1.out) ?_
                          rotate_left
                          · conv => lhs; simp [go_sem]
                            first | done | exact rfl
                          simp only [Act.put, List.getElem_toArray, List.getElem_cons_zero, List.getElem_cons_succ, List.setIfInBounds_toArray, List.set_cons_zero, List.set_cons_succ]
                          refine tree_two (i := 8) (k := 9) (by kernel_rfl) rfl rfl ?_ ?_
                          · refine ⟨_, rfl, fun K hK => ?_⟩
                            go_wp2
                            obtain ⟨wt3, hW⟩ : ∃ X, X = World.alloc wt2 (.cells #[.int .i64 0, .int .i64 0, .int .i64 0] 39) := ⟨_, rfl⟩
                            have bt3 : Hid (Below (wt2).heap.size (wt2) wt3) := Lib.hid (by rw [hW]; exact bx1 _ _ _)
                            have t7_ : Hid (Own wt3 (wt2).heap.size 39 #[.int .i64 0, .int .i64 0, .int .i64 0]) := Lib.hid (by rw [hW]; exact Own.made _ _ _)
                            have t7_lo : Hid (W9.heap.size ≤ (wt2).heap.size) := Lib.hid B1.out.size
                            replace B1 := Lib.hid (then_ B1.out bt3.out B1.out.size)
                            rw [← hW]
                            obtain ⟨gb_t7, hg_t7⟩ : ∃ g, g = (wt2).heap.size := ⟨_, rfl⟩
                            rw [← hg_t7] at t7_ t7_lo  ⊢
                            clear hW hg_t7
                            have t7 := t7_
                            refine hK _ _ (SF.out _ B1.out) ?_
                            clear hK K
                            refine tree_one (i := 9) (by kernel_rfl) rfl ?_
                            · refine ⟨_, rfl, fun K hK => ?_⟩
                              go_wp2
                              obtain ⟨wt4, hW⟩ : ∃ X, X = World.alloc wt3 (.cells #[.int .i64 0, .int .i64 0, .int .i64 0] 39) := ⟨_, rfl⟩
                              have bt4 : Hid (Below (wt3).heap.size (wt3) wt4) := Lib.hid (by rw [hW]; exact bx1 _ _ _)
                              have t8_ : Hid (Own wt4 (wt3).heap.size 39 #[.int .i64 0, .int .i64 0, .int .i64 0]) := Lib.hid (by rw [hW]; exact Own.made _ _ _)
                              have t8_lo : Hid (W9.heap.size ≤ (wt3).heap.size) := Lib.hid B1.out.size
                              have ne_t8_t7 : (wt3).heap.size ≠ gb_t7 := fun e => by have := t7.out.in_; omega
                              replace B1 := Lib.hid (then_ B1.out bt4.out B1.out.size)
                              replace t7 := Lib.hid (t7.out.keep bt4.out)
                              rw [← hW]
                              obtain ⟨gb_t8, hg_t8⟩ : ∃ g, g = (wt3).heap.size := ⟨_, rfl⟩
                              rw [← hg_t8] at t8_ t8_lo ne_t8_t7 ⊢
                              clear hW hg_t8
                              have ne_t7_t8 := Ne.symm ne_t8_t7
                              have t8 := t8_
                              refine hK _ _ (SF.out _ B1.out) ?_
                              clear hK K
                              refine tree_one (i := 10) (by kernel_rfl) rfl ?_
                              · refine ⟨_, rfl, fun K hK => ?_⟩
                                obtain ⟨fz1, fz2, fz3⟩ := t7.out.at_
                                go_wp2
                                clear fz1 fz2 fz3
                                have t7_f : Hid (Own (World.setCell (World.setCell (World.setCell wt4 ⟨gb_t7, 0, none⟩ (.int .i64 b1)) ⟨gb_t7, 1, none⟩ (.int .i64 b2)) ⟨gb_t7, 2, none⟩ (.int .i64 b3)) gb_t7 39 #[.int .i64 b1, .int .i64 b2, .int .i64 b3]) := Lib.hid ((((t7.out.put 0 _).put 1 _).put 2 _).as (by simp))
                                have t8_g : Hid (Own (World.setCell (World.setCell (World.setCell wt4 ⟨gb_t7, 0, none⟩ (.int .i64 b1)) ⟨gb_t7, 1, none⟩ (.int .i64 b2)) ⟨gb_t7, 2, none⟩ (.int .i64 b3)) gb_t8 39 #[.int .i64 0, .int .i64 0, .int .i64 0]) := Lib.hid (((t8.out.apart ne_t8_t7 _ _).apart ne_t8_t7 _ _).apart ne_t8_t7 _ _)
                                have BF_ : Hid (Below W9.heap.size W9 (World.setCell (World.setCell (World.setCell wt4 ⟨gb_t7, 0, none⟩ (.int .i64 b1)) ⟨gb_t7, 1, none⟩ (.int .i64 b2)) ⟨gb_t7, 2, none⟩ (.int .i64 b3))) := Lib.hid (Below.setCell (Below.setCell (Below.setCell B1.out (p := ⟨gb_t7, 0, none⟩) (t7_lo.out) _) (p := ⟨gb_t7, 1, none⟩) (t7_lo.out) _) (p := ⟨gb_t7, 2, none⟩) (t7_lo.out) _)
                                generalize hWF_ : (World.setCell (World.setCell (World.setCell wt4 ⟨gb_t7, 0, none⟩ (.int .i64 b1)) ⟨gb_t7, 1, none⟩ (.int .i64 b2)) ⟨gb_t7, 2, none⟩ (.int .i64 b3)) = wt5 at t7_f BF_ t8_g ⊢
                                clear hWF_
                                have BF := BF_
                                have t8_f := t8_g
                                refine hK _ _ (SF.out _ BF.out) ?_
                                clear hK K
                                refine tree_one (i := 11) (by kernel_rfl) rfl ?_
                                · refine ⟨_, rfl, fun K hK => ?_⟩
                                  obtain ⟨fz1, fz2, fz3⟩ := t8_f.out.at_
                                  go_wp2
                                  clear fz1 fz2 fz3
                                  have t8_f : Hid (Own (World.setCell (World.setCell (World.setCell wt5 ⟨gb_t8, 0, none⟩ (.int .i64 d1)) ⟨gb_t8, 1, none⟩ (.int .i64 d2)) ⟨gb_t8, 2, none⟩ (.int .i64 d3)) gb_t8 39 #[.int .i64 d1, .int .i64 d2, .int .i64 d3]) := Lib.hid ((((t8_f.out.put 0 _).put 1 _).put 2 _).as (by simp))
                                  have t7_g : Hid (Own (World.setCell (World.setCell (World.setCell wt5 ⟨gb_t8, 0, none⟩ (.int .i64 d1)) ⟨gb_t8, 1, none⟩ (.int .i64 d2)) ⟨gb_t8, 2, none⟩ (.int .i64 d3)) gb_t7 39 #[.int .i64 b1, .int .i64 b2, .int .i64 b3]) := Lib.hid (((t7_f.out.apart ne_t7_t8 _ _).apart ne_t7_t8 _ _).apart ne_t7_t8 _ _)
                                  have BF_ : Hid (Below W9.heap.size W9 (World.setCell (World.setCell (World.setCell wt5 ⟨gb_t8, 0, none⟩ (.int .i64 d1)) ⟨gb_t8, 1, none⟩ (.int .i64 d2)) ⟨gb_t8, 2, none⟩ (.int .i64 d3))) := Lib.hid (Below.setCell (Below.setCell (Below.setCell BF.out (p := ⟨gb_t8, 0, none⟩) (t8_lo.out) _) (p := ⟨gb_t8, 1, none⟩) (t8_lo.out) _) (p := ⟨gb_t8, 2, none⟩) (t8_lo.out) _)
                                  generalize hWF_ : (World.setCell (World.setCell (World.setCell wt5 ⟨gb_t8, 0, none⟩ (.int .i64 d1)) ⟨gb_t8, 1, none⟩ (.int .i64 d2)) ⟨gb_t8, 2, none⟩ (.int .i64 d3)) = wt6 at t8_f BF_ t7_g ⊢
                                  clear hWF_
                                  have BF := BF_
                                  have t7_f := t7_g
                                  refine hK _ _ (SF.out _ BF.out) ?_
                                  clear hK K
                                  refine tree_pure (i := 12) (v := ?_) rfl rfl (by kernel_rfl) (by kernel_rfl) (by kernel_rfl) rfl (fun W hS => ?_) (SF.out _ BF.out) ?_
                                  rotate_left
                                  · conv => lhs; simp [go_sem]
                                    first | done | exact rfl
                                  simp only [Act.put, List.getElem_toArray, List.getElem_cons_zero, List.getElem_cons_succ, List.setIfInBounds_toArray, List.set_cons_zero, List.set_cons_succ]
                                  refine tree_end (by kernel_rfl) ?_
                                  go_wp2_with fail
                                  go_meet
                                  exact ⟨_, _, rfl, rfl, rfl, t7_f, BF⟩
                          · refine ⟨_, rfl, fun K hK => ?_⟩
                            go_wp2
                            obtain ⟨wt7, hW⟩ : ∃ X, X = World.alloc wt2 (.cells #[.int .i64 0, .int .i64 0, .int .i64 0] 39) := ⟨_, rfl⟩
                            have bt7 : Hid (Below (wt2).heap.size (wt2) wt7) := Lib.hid (by rw [hW]; exact bx1 _ _ _)
                            have t8_ : Hid (Own wt7 (wt2).heap.size 39 #[.int .i64 0, .int .i64 0, .int .i64 0]) := Lib.hid (by rw [hW]; exact Own.made _ _ _)
                            have t8_lo : Hid (W9.heap.size ≤ (wt2).heap.size) := Lib.hid B1.out.size
                            replace B1 := Lib.hid (then_ B1.out bt7.out B1.out.size)
                            rw [← hW]
                            obtain ⟨gb_t8, hg_t8⟩ : ∃ g, g = (wt2).heap.size := ⟨_, rfl⟩
                            rw [← hg_t8] at t8_ t8_lo  ⊢
                            clear hW hg_t8
                            have t8 := t8_
                            refine hK _ _ (SF.out _ B1.out) ?_
                            clear hK K
                            refine tree_one (i := 8) (by kernel_rfl) rfl ?_
                            · refine ⟨_, rfl, fun K hK => ?_⟩
                              go_wp2
                              obtain ⟨wt8, hW⟩ : ∃ X, X = World.alloc wt7 (.cells #[.int .i64 0, .int .i64 0, .int .i64 0] 39) := ⟨_, rfl⟩
                              have bt8 : Hid (Below (wt7).heap.size (wt7) wt8) := Lib.hid (by rw [hW]; exact bx1 _ _ _)
                              have t7_ : Hid (Own wt8 (wt7).heap.size 39 #[.int .i64 0, .int .i64 0, .int .i64 0]) := Lib.hid (by rw [hW]; exact Own.made _ _ _)
                              have t7_lo : Hid (W9.heap.size ≤ (wt7).heap.size) := Lib.hid B1.out.size
                              have ne_t7_t8 : (wt7).heap.size ≠ gb_t8 := fun e => by have := t8.out.in_; omega
                              replace B1 := Lib.hid (then_ B1.out bt8.out B1.out.size)
                              replace t8 := Lib.hid (t8.out.keep bt8.out)
                              rw [← hW]
                              obtain ⟨gb_t7, hg_t7⟩ : ∃ g, g = (wt7).heap.size := ⟨_, rfl⟩
                              rw [← hg_t7] at t7_ t7_lo ne_t7_t8 ⊢
                              clear hW hg_t7
                              have ne_t8_t7 := Ne.symm ne_t7_t8
                              have t7 := t7_
                              refine hK _ _ (SF.out _ B1.out) ?_
                              clear hK K
                              refine tree_one (i := 10) (by kernel_rfl) rfl ?_
                              · refine ⟨_, rfl, fun K hK => ?_⟩
                                obtain ⟨fz1, fz2, fz3⟩ := t7.out.at_
                                go_wp2
                                clear fz1 fz2 fz3
                                have t7_f : Hid (Own (World.setCell (World.setCell (World.setCell wt8 ⟨gb_t7, 0, none⟩ (.int .i64 b1)) ⟨gb_t7, 1, none⟩ (.int .i64 b2)) ⟨gb_t7, 2, none⟩ (.int .i64 b3)) gb_t7 39 #[.int .i64 b1, .int .i64 b2, .int .i64 b3]) := Lib.hid ((((t7.out.put 0 _).put 1 _).put 2 _).as (by simp))
                                have t8_g : Hid (Own (World.setCell (World.setCell (World.setCell wt8 ⟨gb_t7, 0, none⟩ (.int .i64 b1)) ⟨gb_t7, 1, none⟩ (.int .i64 b2)) ⟨gb_t7, 2, none⟩ (.int .i64 b3)) gb_t8 39 #[.int .i64 0, .int .i64 0, .int .i64 0]) := Lib.hid (((t8.out.apart ne_t8_t7 _ _).apart ne_t8_t7 _ _).apart ne_t8_t7 _ _)
                                have BF_ : Hid (Below W9.heap.size W9 (World.setCell (World.setCell (World.setCell wt8 ⟨gb_t7, 0, none⟩ (.int .i64 b1)) ⟨gb_t7, 1, none⟩ (.int .i64 b2)) ⟨gb_t7, 2, none⟩ (.int .i64 b3))) := Lib.hid (Below.setCell (Below.setCell (Below.setCell B1.out (p := ⟨gb_t7, 0, none⟩) (t7_lo.out) _) (p := ⟨gb_t7, 1, none⟩) (t7_lo.out) _) (p := ⟨gb_t7, 2, none⟩) (t7_lo.out) _)
                                generalize hWF_ : (World.setCell (World.setCell (World.setCell wt8 ⟨gb_t7, 0, none⟩ (.int .i64 b1)) ⟨gb_t7, 1, none⟩ (.int .i64 b2)) ⟨gb_t7, 2, none⟩ (.int .i64 b3)) = wt9 at t7_f BF_ t8_g ⊢
                                clear hWF_
                                have BF := BF_
                                have t8_f := t8_g
                                refine hK _ _ (SF.out _ BF.out) ?_
                                clear hK K
                                refine tree_one (i := 11) (by kernel_rfl) rfl ?_
                                · refine ⟨_, rfl, fun K hK => ?_⟩
                                  obtain ⟨fz1, fz2, fz3⟩ := t8_f.out.at_
                                  go_wp2
                                  clear fz1 fz2 fz3
                                  have t8_f : Hid (Own (World.setCell (World.setCell (World.setCell wt9 ⟨gb_t8, 0, none⟩ (.int .i64 d1)) ⟨gb_t8, 1, none⟩ (.int .i64 d2)) ⟨gb_t8, 2, none⟩ (.int .i64 d3)) gb_t8 39 #[.int .i64 d1, .int .i64 d2, .int .i64 d3]) := Lib.hid ((((t8_f.out.put 0 _).put 1 _).put 2 _).as (by simp))
                                  have t7_g : Hid (Own (World.setCell (World.setCell (World.setCell wt9 ⟨gb_t8, 0, none⟩ (.int .i64 d1)) ⟨gb_t8, 1, none⟩ (.int .i64 d2)) ⟨gb_t8, 2, none⟩ (.int .i64 d3)) gb_t7 39 #[.int .i64 b1, .int .i64 b2, .int .i64 b3]) := Lib.hid (((t7_f.out.apart ne_t7_t8 _ _).apart ne_t7_t8 _ _).apart ne_t7_t8 _ _)
                                  have BF_ : Hid (Below W9.heap.size W9 (World.setCell (World.setCell (World.setCell wt9 ⟨gb_t8, 0, none⟩ (.int .i64 d1)) ⟨gb_t8, 1, none⟩ (.int .i64 d2)) ⟨gb_t8, 2, none⟩ (.int .i64 d3))) := Lib.hid (Below.setCell (Below.setCell (Below.setCell BF.out (p := ⟨gb_t8, 0, none⟩) (t8_lo.out) _) (p := ⟨gb_t8, 1, none⟩) (t8_lo.out) _) (p := ⟨gb_t8, 2, none⟩) (t8_lo.out) _)
                                  generalize hWF_ : (World.setCell (World.setCell (World.setCell wt9 ⟨gb_t8, 0, none⟩ (.int .i64 d1)) ⟨gb_t8, 1, none⟩ (.int .i64 d2)) ⟨gb_t8, 2, none⟩ (.int .i64 d3)) = wt10 at t8_f BF_ t7_g ⊢
                                  clear hWF_
                                  have BF := BF_
                                  have t7_f := t7_g
                                  refine hK _ _ (SF.out _ BF.out) ?_
                                  clear hK K
                                  refine tree_pure (i := 12) (v := ?_) rfl rfl (by kernel_rfl) (by kernel_rfl) (by kernel_rfl) rfl (fun W hS => ?_) (SF.out _ BF.out) ?_
                                  rotate_left
                                  · conv => lhs; simp [go_sem]
                                    first | done | exact rfl
                                  simp only [Act.put, List.getElem_toArray, List.getElem_cons_zero, List.getElem_cons_succ, List.setIfInBounds_toArray, List.set_cons_zero, List.set_cons_succ]
                                  refine tree_end (by kernel_rfl) ?_
                                  go_wp2_with fail
                                  go_meet
                                  exact ⟨_, _, rfl, rfl, rfl, t7_f, BF⟩
                        · refine ⟨_, rfl, fun K hK => ?_⟩
                          go_wp2
                          obtain ⟨wt11, hW⟩ : ∃ X, X = World.alloc wt1 (.cells #[.int .i64 0, .int .i64 0, .int .i64 0] 39) := ⟨_, rfl⟩
                          have bt11 : Hid (Below (wt1).heap.size (wt1) wt11) := Lib.hid (by rw [hW]; exact bx1 _ _ _)
                          have t7_ : Hid (Own wt11 (wt1).heap.size 39 #[.int .i64 0, .int .i64 0, .int .i64 0]) := Lib.hid (by rw [hW]; exact Own.made _ _ _)
                          have t7_lo : Hid (W9.heap.size ≤ (wt1).heap.size) := Lib.hid B1.out.size
                          replace B1 := Lib.hid (then_ B1.out bt11.out B1.out.size)
                          rw [← hW]
                          obtain ⟨gb_t7, hg_t7⟩ : ∃ g, g = (wt1).heap.size := ⟨_, rfl⟩
                          rw [← hg_t7] at t7_ t7_lo  ⊢
                          clear hW hg_t7
                          have t7 := t7_
                          refine hK _ _ (SF.out _ B1.out) ?_
                          clear hK K
                          refine tree_two (i := 3) (k := 9) (by kernel_rfl) rfl rfl ?_ ?_
                          · refine ⟨_, rfl, fun K hK => ?_⟩
                            go_wp2_with (go_at_call 16; refine (ENY.out _ (then_ BW9.out B1.out BW9.out.size)).mono ?_; rintro e wt12 ⟨rfl, bt12⟩; replace bt12 := Lib.hid bt12)
                            replace B1 := Lib.hid (then_ B1.out bt12.out B1.out.size)
                            replace t7 := Lib.hid (t7.out.keep bt12.out)
                            refine hK _ _ (SF.out _ B1.out) ?_
                            clear hK K
                            refine tree_pure (i := 4) (v := ?_) rfl rfl (by kernel_rfl) (by kernel_rfl) (by kernel_rfl) rfl (fun W hS => ?_) (SF.out _ B1.out) ?_
                            rotate_left
                            · conv => lhs; simp [go_sem]
                              first | done | exact rfl
                            simp only [Act.put, List.getElem_toArray, List.getElem_cons_zero, List.getElem_cons_succ, List.setIfInBounds_toArray, List.set_cons_zero, List.set_cons_succ]
                            refine tree_pure (i := 5) (v := ?_) rfl rfl (by kernel_rfl) (by kernel_rfl) (by kernel_rfl) rfl (fun W hS => ?_) (SF.out _ B1.out) ?_
                            rotate_left
                            · conv => lhs; simp [go_sem]
                              first | done | exact rfl
                            simp only [Act.put, List.getElem_toArray, List.getElem_cons_zero, List.getElem_cons_succ, List.setIfInBounds_toArray, List.set_cons_zero, List.set_cons_succ]
                            refine tree_pure (i := 6) (v := ?_) rfl rfl (by kernel_rfl) (by kernel_rfl) (by kernel_rfl) rfl (fun W hS => ?_) (SF.out _ B1.out) ?_
                            rotate_left
                            · conv => lhs; simp [go_sem]
                              first | done | exact rfl
                            simp only [Act.put, List.getElem_toArray, List.getElem_cons_zero, List.getElem_cons_succ, List.setIfInBounds_toArray, List.set_cons_zero, List.set_cons_succ]
                            refine tree_pure (i := 7) (v := ?_) rfl rfl (by kernel_rfl) (by kernel_rfl) (by kernel_rfl) rfl (fun W hS => ?_) (SF.out _ B1.out) ?_
                            rotate_left
                            · conv => lhs; simp [go_sem]
                              first | done | exact rfl
                            simp only [Act.put, List.getElem_toArray, List.getElem_cons_zero, List.getElem_cons_succ, List.setIfInBounds_toArray, List.set_cons_zero, List.set_cons_succ]
                            refine tree_one (i := 9) (by kernel_rfl) rfl ?_
                            · refine ⟨_, rfl, fun K hK => ?_⟩
                              go_wp2
                              obtain ⟨wt13, hW⟩ : ∃ X, X = World.alloc wt12 (.cells #[.int .i64 0, .int .i64 0, .int .i64 0] 39) := ⟨_, rfl⟩
                              have bt13 : Hid (Below (wt12).heap.size (wt12) wt13) := Lib.hid (by rw [hW]; exact bx1 _ _ _)
                              have t8_ : Hid (Own wt13 (wt12).heap.size 39 #[.int .i64 0, .int .i64 0, .int .i64 0]) := Lib.hid (by rw [hW]; exact Own.made _ _ _)
                              have t8_lo : Hid (W9.heap.size ≤ (wt12).heap.size) := Lib.hid B1.out.size
                              have ne_t8_t7 : (wt12).heap.size ≠ gb_t7 := fun e => by have := t7.out.in_; omega
                              replace B1 := Lib.hid (then_ B1.out bt13.out B1.out.size)
                              replace t7 := Lib.hid (t7.out.keep bt13.out)
                              rw [← hW]
                              obtain ⟨gb_t8, hg_t8⟩ : ∃ g, g = (wt12).heap.size := ⟨_, rfl⟩
                              rw [← hg_t8] at t8_ t8_lo ne_t8_t7 ⊢
                              clear hW hg_t8
                              have ne_t7_t8 := Ne.symm ne_t8_t7
                              have t8 := t8_
                              refine hK _ _ (SF.out _ B1.out) ?_
                              clear hK K
                              refine tree_one (i := 10) (by kernel_rfl) rfl ?_
                              · refine ⟨_, rfl, fun K hK => ?_⟩
                                obtain ⟨fz1, fz2, fz3⟩ := t7.out.at_
                                go_wp2
                                clear fz1 fz2 fz3
                                have t7_f : Hid (Own (World.setCell (World.setCell (World.setCell wt13 ⟨gb_t7, 0, none⟩ (.int .i64 b1)) ⟨gb_t7, 1, none⟩ (.int .i64 b2)) ⟨gb_t7, 2, none⟩ (.int .i64 b3)) gb_t7 39 #[.int .i64 b1, .int .i64 b2, .int .i64 b3]) := Lib.hid ((((t7.out.put 0 _).put 1 _).put 2 _).as (by simp))
                                have t8_g : Hid (Own (World.setCell (World.setCell (World.setCell wt13 ⟨gb_t7, 0, none⟩ (.int .i64 b1)) ⟨gb_t7, 1, none⟩ (.int .i64 b2)) ⟨gb_t7, 2, none⟩ (.int .i64 b3)) gb_t8 39 #[.int .i64 0, .int .i64 0, .int .i64 0]) := Lib.hid (((t8.out.apart ne_t8_t7 _ _).apart ne_t8_t7 _ _).apart ne_t8_t7 _ _)
                                have BF_ : Hid (Below W9.heap.size W9 (World.setCell (World.setCell (World.setCell wt13 ⟨gb_t7, 0, none⟩ (.int .i64 b1)) ⟨gb_t7, 1, none⟩ (.int .i64 b2)) ⟨gb_t7, 2, none⟩ (.int .i64 b3))) := Lib.hid (Below.setCell (Below.setCell (Below.setCell B1.out (p := ⟨gb_t7, 0, none⟩) (t7_lo.out) _) (p := ⟨gb_t7, 1, none⟩) (t7_lo.out) _) (p := ⟨gb_t7, 2, none⟩) (t7_lo.out) _)
                                generalize hWF_ : (World.setCell (World.setCell (World.setCell wt13 ⟨gb_t7, 0, none⟩ (.int .i64 b1)) ⟨gb_t7, 1, none⟩ (.int .i64 b2)) ⟨gb_t7, 2, none⟩ (.int .i64 b3)) = wt14 at t7_f BF_ t8_g ⊢
                                clear hWF_
                                have BF := BF_
                                have t8_f := t8_g
                                refine hK _ _ (SF.out _ BF.out) ?_
                                clear hK K
                                refine tree_one (i := 11) (by kernel_rfl) rfl ?_
                                · refine ⟨_, rfl, fun K hK => ?_⟩
                                  obtain ⟨fz1, fz2, fz3⟩ := t8_f.out.at_
                                  go_wp2
                                  clear fz1 fz2 fz3
                                  have t8_f : Hid (Own (World.setCell (World.setCell (World.setCell wt14 ⟨gb_t8, 0, none⟩ (.int .i64 d1)) ⟨gb_t8, 1, none⟩ (.int .i64 d2)) ⟨gb_t8, 2, none⟩ (.int .i64 d3)) gb_t8 39 #[.int .i64 d1, .int .i64 d2, .int .i64 d3]) := Lib.hid ((((t8_f.out.put 0 _).put 1 _).put 2 _).as (by simp))
                                  have t7_g : Hid (Own (World.setCell (World.setCell (World.setCell wt14 ⟨gb_t8, 0, none⟩ (.int .i64 d1)) ⟨gb_t8, 1, none⟩ (.int .i64 d2)) ⟨gb_t8, 2, none⟩ (.int .i64 d3)) gb_t7 39 #[.int .i64 b1, .int .i64 b2, .int .i64 b3]) := Lib.hid (((t7_f.out.apart ne_t7_t8 _ _).apart ne_t7_t8 _ _).apart ne_t7_t8 _ _)
                                  have BF_ : Hid (Below W9.heap.size W9 (World.setCell (World.setCell (World.setCell wt14 ⟨gb_t8, 0, none⟩ (.int .i64 d1)) ⟨gb_t8, 1, none⟩ (.int .i64 d2)) ⟨gb_t8, 2, none⟩ (.int .i64 d3))) := Lib.hid (Below.setCell (Below.setCell (Below.setCell BF.out (p := ⟨gb_t8, 0, none⟩) (t8_lo.out) _) (p := ⟨gb_t8, 1, none⟩) (t8_lo.out) _) (p := ⟨gb_t8, 2, none⟩) (t8_lo.out) _)
                                  generalize hWF_ : (World.setCell (World.setCell (World.setCell wt14 ⟨gb_t8, 0, none⟩ (.int .i64 d1)) ⟨gb_t8, 1, none⟩ (.int .i64 d2)) ⟨gb_t8, 2, none⟩ (.int .i64 d3)) = wt15 at t8_f BF_ t7_g ⊢
                                  clear hWF_
                                  have BF := BF_
                                  have t7_f := t7_g
                                  refine hK _ _ (SF.out _ BF.out) ?_
                                  clear hK K
                                  refine tree_pure (i := 12) (v := ?_) rfl rfl (by kernel_rfl) (by kernel_rfl) (by kernel_rfl) rfl (fun W hS => ?_) (SF.out _ BF.out) ?_
                                  rotate_left
                                  · conv => lhs; simp [go_sem]
                                    first | done | exact rfl
                                  simp only [Act.put, List.getElem_toArray, List.getElem_cons_zero, List.getElem_cons_succ, List.setIfInBounds_toArray, List.set_cons_zero, List.set_cons_succ]
                                  refine tree_end (by kernel_rfl) ?_
                                  go_wp2_with fail
                                  go_meet
                                  exact ⟨_, _, rfl, rfl, rfl, t7_f, BF⟩
                          · refine ⟨_, rfl, fun K hK => ?_⟩
                            go_wp2
                            obtain ⟨wt16, hW⟩ : ∃ X, X = World.alloc wt11 (.cells #[.int .i64 0, .int .i64 0, .int .i64 0] 39) := ⟨_, rfl⟩
                            have bt16 : Hid (Below (wt11).heap.size (wt11) wt16) := Lib.hid (by rw [hW]; exact bx1 _ _ _)
                            have t8_ : Hid (Own wt16 (wt11).heap.size 39 #[.int .i64 0, .int .i64 0, .int .i64 0]) := Lib.hid (by rw [hW]; exact Own.made _ _ _)
                            have t8_lo : Hid (W9.heap.size ≤ (wt11).heap.size) := Lib.hid B1.out.size
                            have ne_t8_t7 : (wt11).heap.size ≠ gb_t7 := fun e => by have := t7.out.in_; omega
                            replace B1 := Lib.hid (then_ B1.out bt16.out B1.out.size)
                            replace t7 := Lib.hid (t7.out.keep bt16.out)
                            rw [← hW]
                            obtain ⟨gb_t8, hg_t8⟩ : ∃ g, g = (wt11).heap.size := ⟨_, rfl⟩
                            rw [← hg_t8] at t8_ t8_lo ne_t8_t7 ⊢
                            clear hW hg_t8
                            have ne_t7_t8 := Ne.symm ne_t8_t7
                            have t8 := t8_
                            refine hK _ _ (SF.out _ B1.out) ?_
                            clear hK K
                            refine tree_one (i := 3) (by kernel_rfl) rfl ?_
                            · refine ⟨_, rfl, fun K hK => ?_⟩
                              go_wp2_with (go_at_call 16; refine (ENY.out _ (then_ BW9.out B1.out BW9.out.size)).mono ?_; rintro e wt17 ⟨rfl, bt17⟩; replace bt17 := Lib.hid bt17)
                              replace B1 := Lib.hid (then_ B1.out bt17.out B1.out.size)
                              replace t7 := Lib.hid (t7.out.keep bt17.out)
                              replace t8 := Lib.hid (t8.out.keep bt17.out)
                              refine hK _ _ (SF.out _ B1.out) ?_
                              clear hK K
                              refine tree_pure (i := 4) (v := ?_) rfl rfl (by kernel_rfl) (by kernel_rfl) (by kernel_rfl) rfl (fun W hS => ?_) (SF.out _ B1.out) ?_
                              rotate_left
                              · conv => lhs; simp [go_sem]
                                first | done | exact rfl
                              simp only [Act.put, List.getElem_toArray, List.getElem_cons_zero, List.getElem_cons_succ, List.setIfInBounds_toArray, List.set_cons_zero, List.set_cons_succ]
                              refine tree_pure (i := 5) (v := ?_) rfl rfl (by kernel_rfl) (by kernel_rfl) (by kernel_rfl) rfl (fun W hS => ?_) (SF.out _ B1.out) ?_
                              rotate_left
                              · conv => lhs; simp [go_sem]
                                first | done | exact rfl
                              simp only [Act.put, List.getElem_toArray, List.getElem_cons_zero, List.getElem_cons_succ, List.setIfInBounds_toArray, List.set_cons_zero, List.set_cons_succ]
                              refine tree_pure (i := 6) (v := ?_) rfl rfl (by kernel_rfl) (by kernel_rfl) (by kernel_rfl) rfl (fun W hS => ?_) (SF.out _ B1.out) ?_
                              rotate_left
                              · conv => lhs; simp [go_sem]
                                first | done | exact rfl
                              simp only [Act.put, List.getElem_toArray, List.getElem_cons_zero, List.getElem_cons_succ, List.setIfInBounds_toArray, List.set_cons_zero, List.set_cons_succ]
                              refine tree_pure (i := 7) (v := ?_) rfl rfl (by kernel_rfl) (by kernel_rfl) (by kernel_rfl) rfl (fun W hS => ?_) (SF.out _ B1.out) ?_
                              rotate_left
                              · conv => lhs; simp [go_sem]
                                first | done | exact rfl
                              simp only [Act.put, List.getElem_toArray, List.getElem_cons_zero, List.getElem_cons_succ, List.setIfInBounds_toArray, List.set_cons_zero, List.set_cons_succ]
                              refine tree_one (i := 10) (by kernel_rfl) rfl ?_
                              · refine ⟨_, rfl, fun K hK => ?_⟩
                                obtain ⟨fz1, fz2, fz3⟩ := t7.out.at_
                                go_wp2
                                clear fz1 fz2 fz3
                                have t7_f : Hid (Own (World.setCell (World.setCell (World.setCell wt17 ⟨gb_t7, 0, none⟩ (.int .i64 b1)) ⟨gb_t7, 1, none⟩ (.int .i64 b2)) ⟨gb_t7, 2, none⟩ (.int .i64 b3)) gb_t7 39 #[.int .i64 b1, .int .i64 b2, .int .i64 b3]) := Lib.hid ((((t7.out.put 0 _).put 1 _).put 2 _).as (by simp))
                                have t8_g : Hid (Own (World.setCell (World.setCell (World.setCell wt17 ⟨gb_t7, 0, none⟩ (.int .i64 b1)) ⟨gb_t7, 1, none⟩ (.int .i64 b2)) ⟨gb_t7, 2, none⟩ (.int .i64 b3)) gb_t8 39 #[.int .i64 0, .int .i64 0, .int .i64 0]) := Lib.hid (((t8.out.apart ne_t8_t7 _ _).apart ne_t8_t7 _ _).apart ne_t8_t7 _ _)
                                have BF_ : Hid (Below W9.heap.size W9 (World.setCell (World.setCell (World.setCell wt17 ⟨gb_t7, 0, none⟩ (.int .i64 b1)) ⟨gb_t7, 1, none⟩ (.int .i64 b2)) ⟨gb_t7, 2, none⟩ (.int .i64 b3))) := Lib.hid (Below.setCell (Below.setCell (Below.setCell B1.out (p := ⟨gb_t7, 0, none⟩) (t7_lo.out) _) (p := ⟨gb_t7, 1, none⟩) (t7_lo.out) _) (p := ⟨gb_t7, 2, none⟩) (t7_lo.out) _)
                                generalize hWF_ : (World.setCell (World.setCell (World.setCell wt17 ⟨gb_t7, 0, none⟩ (.int .i64 b1)) ⟨gb_t7, 1, none⟩ (.int .i64 b2)) ⟨gb_t7, 2, none⟩ (.int .i64 b3)) = wt18 at t7_f BF_ t8_g ⊢
                                clear hWF_
                                have BF := BF_
                                have t8_f := t8_g
                                refine hK _ _ (SF.out _ BF.out) ?_
                                clear hK K
                                refine tree_one (i := 11) (by kernel_rfl) rfl ?_
                                · refine ⟨_, rfl, fun K hK => ?_⟩
                                  obtain ⟨fz1, fz2, fz3⟩ := t8_f.out.at_
                                  go_wp2
                                  clear fz1 fz2 fz3
                                  have t8_f : Hid (Own (World.setCell (World.setCell (World.setCell wt18 ⟨gb_t8, 0, none⟩ (.int .i64 d1)) ⟨gb_t8, 1, none⟩ (.int .i64 d2)) ⟨gb_t8, 2, none⟩ (.int .i64 d3)) gb_t8 39 #[.int .i64 d1, .int .i64 d2, .int .i64 d3]) := Lib.hid ((((t8_f.out.put 0 _).put 1 _).put 2 _).as (by simp))
                                  have t7_g : Hid (Own (World.setCell (World.setCell (World.setCell wt18 ⟨gb_t8, 0, none⟩ (.int .i64 d1)) ⟨gb_t8, 1, none⟩ (.int .i64 d2)) ⟨gb_t8, 2, none⟩ (.int .i64 d3)) gb_t7 39 #[.int .i64 b1, .int .i64 b2, .int .i64 b3]) := Lib.hid (((t7_f.out.apart ne_t7_t8 _ _).apart ne_t7_t8 _ _).apart ne_t7_t8 _ _)
                                  have BF_ : Hid (Below W9.heap.size W9 (World.setCell (World.setCell (World.setCell wt18 ⟨gb_t8, 0, none⟩ (.int .i64 d1)) ⟨gb_t8, 1, none⟩ (.int .i64 d2)) ⟨gb_t8, 2, none⟩ (.int .i64 d3))) := Lib.hid (Below.setCell (Below.setCell (Below.setCell BF.out (p := ⟨gb_t8, 0, none⟩) (t8_lo.out) _) (p := ⟨gb_t8, 1, none⟩) (t8_lo.out) _) (p := ⟨gb_t8, 2, none⟩) (t8_lo.out) _)
                                  generalize hWF_ : (World.setCell (World.setCell (World.setCell wt18 ⟨gb_t8, 0, none⟩ (.int .i64 d1)) ⟨gb_t8, 1, none⟩ (.int .i64 d2)) ⟨gb_t8, 2, none⟩ (.int .i64 d3)) = wt19 at t8_f BF_ t7_g ⊢
                                  clear hWF_
                                  have BF := BF_
                                  have t7_f := t7_g
                                  refine hK _ _ (SF.out _ BF.out) ?_
                                  clear hK K
                                  refine tree_pure (i := 12) (v := ?_) rfl rfl (by kernel_rfl) (by kernel_rfl) (by kernel_rfl) rfl (fun W hS => ?_) (SF.out _ BF.out) ?_
                                  rotate_left
                                  · conv => lhs; simp [go_sem]
                                    first | done | exact rfl
                                  simp only [Act.put, List.getElem_toArray, List.getElem_cons_zero, List.getElem_cons_succ, List.setIfInBounds_toArray, List.set_cons_zero, List.set_cons_succ]
                                  refine tree_end (by kernel_rfl) ?_
                                  go_wp2_with fail
                                  go_meet
                                  exact ⟨_, _, rfl, rfl, rfl, t7_f, BF⟩
                        · refine ⟨_, rfl, fun K hK => ?_⟩
                          go_wp2
                          obtain ⟨wt20, hW⟩ : ∃ X, X = World.alloc wt1 (.cells #[.int .i64 0, .int .i64 0, .int .i64 0] 39) := ⟨_, rfl⟩
                          have bt20 : Hid (Below (wt1).heap.size (wt1) wt20) := Lib.hid (by rw [hW]; exact bx1 _ _ _)
                          have t8_ : Hid (Own wt20 (wt1).heap.size 39 #[.int .i64 0, .int .i64 0, .int .i64 0]) := Lib.hid (by rw [hW]; exact Own.made _ _ _)
                          have t8_lo : Hid (W9.heap.size ≤ (wt1).heap.size) := Lib.hid B1.out.size
                          replace B1 := Lib.hid (then_ B1.out bt20.out B1.out.size)
                          rw [← hW]
                          obtain ⟨gb_t8, hg_t8⟩ : ∃ g, g = (wt1).heap.size := ⟨_, rfl⟩
                          rw [← hg_t8] at t8_ t8_lo  ⊢
                          clear hW hg_t8
                          have t8 := t8_
                          refine hK _ _ (SF.out _ B1.out) ?_
                          clear hK K
                          refine tree_two (i := 3) (k := 8) (by kernel_rfl) rfl rfl ?_ ?_
                          · refine ⟨_, rfl, fun K hK => ?_⟩
                            go_wp2_with (go_at_call 16; refine (ENY.out _ (then_ BW9.out B1.out BW9.out.size)).mono ?_; rintro e wt21 ⟨rfl, bt21⟩; replace bt21 := Lib.hid bt21)
                            replace B1 := Lib.hid (then_ B1.out bt21.out B1.out.size)
                            replace t8 := Lib.hid (t8.out.keep bt21.out)
                            refine hK _ _ (SF.out _ B1.out) ?_
                            clear hK K
                            refine tree_pure (i := 4) (v := ?_) rfl rfl (by kernel_rfl) (by kernel_rfl) (by kernel_rfl) rfl (fun W hS => ?_) (SF.out _ B1.out) ?_
                            rotate_left
                            · conv => lhs; simp [go_sem]
                              first | done | exact rfl
                            simp only [Act.put, List.getElem_toArray, List.getElem_cons_zero, List.getElem_cons_succ, List.setIfInBounds_toArray, List.set_cons_zero, List.set_cons_succ]
                            refine tree_pure (i := 5) (v := ?_) rfl rfl (by kernel_rfl) (by kernel_rfl) (by kernel_rfl) rfl (fun W hS => ?_) (SF.out _ B1.out) ?_
                            rotate_left
                            · conv => lhs; simp [go_sem]
                              first | done | exact rfl
                            simp only [Act.put, List.getElem_toArray, List.getElem_cons_zero, List.getElem_cons_succ, List.setIfInBounds_toArray, List.set_cons_zero, List.set_cons_succ]
                            refine tree_pure (i := 6) (v := ?_) rfl rfl (by kernel_rfl) (by kernel_rfl) (by kernel_rfl) rfl (fun W hS => ?_) (SF.out _ B1.out) ?_
                            rotate_left
                            · conv => lhs; simp [go_sem]
                              first | done | exact rfl
                            simp only [Act.put, List.getElem_toArray, List.getElem_cons_zero, List.getElem_cons_succ, List.setIfInBounds_toArray, List.set_cons_zero, List.set_cons_succ]
                            refine tree_pure (i := 7) (v := ?_) rfl rfl (by kernel_rfl) (by kernel_rfl) (by kernel_rfl) rfl (fun W hS => ?_) (SF.out _ B1.out) ?_
                            rotate_left
                            · conv => lhs; simp [go_sem]
                              first | done | exact rfl
                            simp only [Act.put, List.getElem_toArray, List.getElem_cons_zero, List.getElem_cons_succ, List.setIfInBounds_toArray, List.set_cons_zero, List.set_cons_succ]
                            refine tree_one (i := 8) (by kernel_rfl) rfl ?_
                            · refine ⟨_, rfl, fun K hK => ?_⟩
                              go_wp2
                              obtain ⟨wt22, hW⟩ : ∃ X, X = World.alloc wt21 (.cells #[.int .i64 0, .int .i64 0, .int .i64 0] 39) := ⟨_, rfl⟩
                              have bt22 : Hid (Below (wt21).heap.size (wt21) wt22) := Lib.hid (by rw [hW]; exact bx1 _ _ _)
                              have t7_ : Hid (Own wt22 (wt21).heap.size 39 #[.int .i64 0, .int .i64 0, .int .i64 0]) := Lib.hid (by rw [hW]; exact Own.made _ _ _)
                              have t7_lo : Hid (W9.heap.size ≤ (wt21).heap.size) := Lib.hid B1.out.size
                              have ne_t7_t8 : (wt21).heap.size ≠ gb_t8 := fun e => by have := t8.out.in_; omega
                              replace B1 := Lib.hid (then_ B1.out bt22.out B1.out.size)
                              replace t8 := Lib.hid (t8.out.keep bt22.out)
                              rw [← hW]
                              obtain ⟨gb_t7, hg_t7⟩ : ∃ g, g = (wt21).heap.size := ⟨_, rfl⟩
                              rw [← hg_t7] at t7_ t7_lo ne_t7_t8 ⊢
                              clear hW hg_t7
                              have ne_t8_t7 := Ne.symm ne_t7_t8
                              have t7 := t7_
                              refine hK _ _ (SF.out _ B1.out) ?_
                              clear hK K
                              refine tree_one (i := 10) (by kernel_rfl) rfl ?_
                              · refine ⟨_, rfl, fun K hK => ?_⟩
                                obtain ⟨fz1, fz2, fz3⟩ := t7.out.at_
                                go_wp2
                                clear fz1 fz2 fz3
                                have t7_f : Hid (Own (World.setCell (World.setCell (World.setCell wt22 ⟨gb_t7, 0, none⟩ (.int .i64 b1)) ⟨gb_t7, 1, none⟩ (.int .i64 b2)) ⟨gb_t7, 2, none⟩ (.int .i64 b3)) gb_t7 39 #[.int .i64 b1, .int .i64 b2, .int .i64 b3]) := Lib.hid ((((t7.out.put 0 _).put 1 _).put 2 _).as (by simp))
                                have t8_g : Hid (Own (World.setCell (World.setCell (World.setCell wt22 ⟨gb_t7, 0, none⟩ (.int .i64 b1)) ⟨gb_t7, 1, none⟩ (.int .i64 b2)) ⟨gb_t7, 2, none⟩ (.int .i64 b3)) gb_t8 39 #[.int .i64 0, .int .i64 0, .int .i64 0]) := Lib.hid (((t8.out.apart ne_t8_t7 _ _).apart ne_t8_t7 _ _).apart ne_t8_t7 _ _)
                                have BF_ : Hid (Below W9.heap.size W9 (World.setCell (World.setCell (World.setCell wt22 ⟨gb_t7, 0, none⟩ (.int .i64 b1)) ⟨gb_t7, 1, none⟩ (.int .i64 b2)) ⟨gb_t7, 2, none⟩ (.int .i64 b3))) := Lib.hid (Below.setCell (Below.setCell (Below.setCell B1.out (p := ⟨gb_t7, 0, none⟩) (t7_lo.out) _) (p := ⟨gb_t7, 1, none⟩) (t7_lo.out) _) (p := ⟨gb_t7, 2, none⟩) (t7_lo.out) _)
                                generalize hWF_ : (World.setCell (World.setCell (World.setCell wt22 ⟨gb_t7, 0, none⟩ (.int .i64 b1)) ⟨gb_t7, 1, none⟩ (.int .i64 b2)) ⟨gb_t7, 2, none⟩ (.int .i64 b3)) = wt23 at t7_f BF_ t8_g ⊢
                                clear hWF_
                                have BF := BF_
                                have t8_f := t8_g
                                refine hK _ _ (SF.out _ BF.out) ?_
                                clear hK K
                                refine tree_one (i := 11) (by kernel_rfl) rfl ?_
                                · refine ⟨_, rfl, fun K hK => ?_⟩
                                  obtain ⟨fz1, fz2, fz3⟩ := t8_f.out.at_
                                  go_wp2
                                  clear fz1 fz2 fz3
                                  have t8_f : Hid (Own (World.setCell (World.setCell (World.setCell wt23 ⟨gb_t8, 0, none⟩ (.int .i64 d1)) ⟨gb_t8, 1, none⟩ (.int .i64 d2)) ⟨gb_t8, 2, none⟩ (.int .i64 d3)) gb_t8 39 #[.int .i64 d1, .int .i64 d2, .int .i64 d3]) := Lib.hid ((((t8_f.out.put 0 _).put 1 _).put 2 _).as (by simp))
                                  have t7_g : Hid (Own (World.setCell (World.setCell (World.setCell wt23 ⟨gb_t8, 0, none⟩ (.int .i64 d1)) ⟨gb_t8, 1, none⟩ (.int .i64 d2)) ⟨gb_t8, 2, none⟩ (.int .i64 d3)) gb_t7 39 #[.int .i64 b1, .int .i64 b2, .int .i64 b3]) := Lib.hid (((t7_f.out.apart ne_t7_t8 _ _).apart ne_t7_t8 _ _).apart ne_t7_t8 _ _)
                                  have BF_ : Hid (Below W9.heap.size W9 (World.setCell (World.setCell (World.setCell wt23 ⟨gb_t8, 0, none⟩ (.int .i64 d1)) ⟨gb_t8, 1, none⟩ (.int .i64 d2)) ⟨gb_t8, 2, none⟩ (.int .i64 d3))) := Lib.hid (Below.setCell (Below.setCell (Below.setCell BF.out (p := ⟨gb_t8, 0, none⟩) (t8_lo.out) _) (p := ⟨gb_t8, 1, none⟩) (t8_lo.out) _) (p := ⟨gb_t8, 2, none⟩) (t8_lo.out) _)
                                  generalize hWF_ : (World.setCell (World.setCell (World.setCell wt23 ⟨gb_t8, 0, none⟩ (.int .i64 d1)) ⟨gb_t8, 1, none⟩ (.int .i64 d2)) ⟨gb_t8, 2, none⟩ (.int .i64 d3)) = wt24 at t8_f BF_ t7_g ⊢
                                  clear hWF_
                                  have BF := BF_
                                  have t7_f := t7_g
                                  refine hK _ _ (SF.out _ BF.out) ?_
                                  clear hK K
                                  refine tree_pure (i := 12) (v := ?_) rfl rfl (by kernel_rfl) (by kernel_rfl) (by kernel_rfl) rfl (fun W hS => ?_) (SF.out _ BF.out) ?_
                                  rotate_left
                                  · conv => lhs; simp [go_sem]
                                    first | done | exact rfl
                                  simp only [Act.put, List.getElem_toArray, List.getElem_cons_zero, List.getElem_cons_succ, List.setIfInBounds_toArray, List.set_cons_zero, List.set_cons_succ]
                                  refine tree_end (by kernel_rfl) ?_
                                  go_wp2_with fail
                                  go_meet
                                  exact ⟨_, _, rfl, rfl, rfl, t7_f, BF⟩
                          · refine ⟨_, rfl, fun K hK => ?_⟩
                            go_wp2
                            obtain ⟨wt25, hW⟩ : ∃ X, X = World.alloc wt20 (.cells #[.int .i64 0, .int .i64 0, .int .i64 0] 39) := ⟨_, rfl⟩
                            have bt25 : Hid (Below (wt20).heap.size (wt20) wt25) := Lib.hid (by rw [hW]; exact bx1 _ _ _)
                            have t7_ : Hid (Own wt25 (wt20).heap.size 39 #[.int .i64 0, .int .i64 0, .int .i64 0]) := Lib.hid (by rw [hW]; exact Own.made _ _ _)
                            have t7_lo : Hid (W9.heap.size ≤ (wt20).heap.size) := Lib.hid B1.out.size
                            have ne_t7_t8 : (wt20).heap.size ≠ gb_t8 := fun e => by have := t8.out.in_; omega
                            replace B1 := Lib.hid (then_ B1.out bt25.out B1.out.size)
                            replace t8 := Lib.hid (t8.out.keep bt25.out)
                            rw [← hW]
                            obtain ⟨gb_t7, hg_t7⟩ : ∃ g, g = (wt20).heap.size := ⟨_, rfl⟩
                            rw [← hg_t7] at t7_ t7_lo ne_t7_t8 ⊢
                            clear hW hg_t7
                            have ne_t8_t7 := Ne.symm ne_t7_t8
                            have t7 := t7_
                            refine hK _ _ (SF.out _ B1.out) ?_
                            clear hK K
                            refine tree_one (i := 3) (by kernel_rfl) rfl ?_
                            · refine ⟨_, rfl, fun K hK => ?_⟩
                              go_wp2_with (go_at_call 16; refine (ENY.out _ (then_ BW9.out B1.out BW9.out.size)).mono ?_; rintro e wt26 ⟨rfl, bt26⟩; replace bt26 := Lib.hid bt26)
                              replace B1 := Lib.hid (then_ B1.out bt26.out B1.out.size)
                              replace t8 := Lib.hid (t8.out.keep bt26.out)
                              replace t7 := Lib.hid (t7.out.keep bt26.out)
                              refine hK _ _ (SF.out _ B1.out) ?_
                              clear hK K
                              refine tree_pure (i := 4) (v := ?_) rfl rfl (by kernel_rfl) (by kernel_rfl) (by kernel_rfl) rfl (fun W hS => ?_) (SF.out _ B1.out) ?_
                              rotate_left
                              · conv => lhs; simp [go_sem]
                                first | done | exact rfl
                              simp only [Act.put, List.getElem_toArray, List.getElem_cons_zero, List.getElem_cons_succ, List.setIfInBounds_toArray, List.set_cons_zero, List.set_cons_succ]
                              refine tree_pure (i := 5) (v := ?_) rfl rfl (by kernel_rfl) (by kernel_rfl) (by kernel_rfl) rfl (fun W hS => ?_) (SF.out _ B1.out) ?_
                              rotate_left
                              · conv => lhs; simp [go_sem]
                                first | done | exact rfl
                              simp only [Act.put, List.getElem_toArray, List.getElem_cons_zero, List.getElem_cons_succ, List.setIfInBounds_toArray, List.set_cons_zero, List.set_cons_succ]
                              refine tree_pure (i := 6) (v := ?_) rfl rfl (by kernel_rfl) (by kernel_rfl) (by kernel_rfl) rfl (fun W hS => ?_) (SF.out _ B1.out) ?_
                              rotate_left
                              · conv => lhs; simp [go_sem]
                                first | done | exact rfl
                              simp only [Act.put, List.getElem_toArray, List.getElem_cons_zero, List.getElem_cons_succ, List.setIfInBounds_toArray, List.set_cons_zero, List.set_cons_succ]
                              refine tree_pure (i := 7) (v := ?_) rfl rfl (by kernel_rfl) (by kernel_rfl) (by kernel_rfl) rfl (fun W hS => ?_) (SF.out _ B1.out) ?_
                              rotate_left
                              · conv => lhs; simp [go_sem]
                                first | done | exact rfl
                              simp only [Act.put, List.getElem_toArray, List.getElem_cons_zero, List.getElem_cons_succ, List.setIfInBounds_toArray, List.set_cons_zero, List.set_cons_succ]
                              refine tree_one (i := 10) (by kernel_rfl) rfl ?_
                              · refine ⟨_, rfl, fun K hK => ?_⟩
                                obtain ⟨fz1, fz2, fz3⟩ := t7.out.at_
                                go_wp2
                                clear fz1 fz2 fz3
                                have t7_f : Hid (Own (World.setCell (World.setCell (World.setCell wt26 ⟨gb_t7, 0, none⟩ (.int .i64 b1)) ⟨gb_t7, 1, none⟩ (.int .i64 b2)) ⟨gb_t7, 2, none⟩ (.int .i64 b3)) gb_t7 39 #[.int .i64 b1, .int .i64 b2, .int .i64 b3]) := Lib.hid ((((t7.out.put 0 _).put 1 _).put 2 _).as (by simp))
                                have t8_g : Hid (Own (World.setCell (World.setCell (World.setCell wt26 ⟨gb_t7, 0, none⟩ (.int .i64 b1)) ⟨gb_t7, 1, none⟩ (.int .i64 b2)) ⟨gb_t7, 2, none⟩ (.int .i64 b3)) gb_t8 39 #[.int .i64 0, .int .i64 0, .int .i64 0]) := Lib.hid (((t8.out.apart ne_t8_t7 _ _).apart ne_t8_t7 _ _).apart ne_t8_t7 _ _)
                                have BF_ : Hid (Below W9.heap.size W9 (World.setCell (World.setCell (World.setCell wt26 ⟨gb_t7, 0, none⟩ (.int .i64 b1)) ⟨gb_t7, 1, none⟩ (.int .i64 b2)) ⟨gb_t7, 2, none⟩ (.int .i64 b3))) := Lib.hid (Below.setCell (Below.setCell (Below.setCell B1.out (p := ⟨gb_t7, 0, none⟩) (t7_lo.out) _) (p := ⟨gb_t7, 1, none⟩) (t7_lo.out) _) (p := ⟨gb_t7, 2, none⟩) (t7_lo.out) _)
                                generalize hWF_ : (World.setCell (World.setCell (World.setCell wt26 ⟨gb_t7, 0, none⟩ (.int .i64 b1)) ⟨gb_t7, 1, none⟩ (.int .i64 b2)) ⟨gb_t7, 2, none⟩ (.int .i64 b3)) = wt27 at t7_f BF_ t8_g ⊢
                                clear hWF_
                                have BF := BF_
                                have t8_f := t8_g
                                refine hK _ _ (SF.out _ BF.out) ?_
                                clear hK K
                                refine tree_one (i := 11) (by kernel_rfl) rfl ?_
                                · refine ⟨_, rfl, fun K hK => ?_⟩
                                  obtain ⟨fz1, fz2, fz3⟩ := t8_f.out.at_
                                  go_wp2
                                  clear fz1 fz2 fz3
                                  have t8_f : Hid (Own (World.setCell (World.setCell (World.setCell wt27 ⟨gb_t8, 0, none⟩ (.int .i64 d1)) ⟨gb_t8, 1, none⟩ (.int .i64 d2)) ⟨gb_t8, 2, none⟩ (.int .i64 d3)) gb_t8 39 #[.int .i64 d1, .int .i64 d2, .int .i64 d3]) := Lib.hid ((((t8_f.out.put 0 _).put 1 _).put 2 _).as (by simp))
                                  have t7_g : Hid (Own (World.setCell (World.setCell (World.setCell wt27 ⟨gb_t8, 0, none⟩ (.int .i64 d1)) ⟨gb_t8, 1, none⟩ (.int .i64 d2)) ⟨gb_t8, 2, none⟩ (.int .i64 d3)) gb_t7 39 #[.int .i64 b1, .int .i64 b2, .int .i64 b3]) := Lib.hid (((t7_f.out.apart ne_t7_t8 _ _).apart ne_t7_t8 _ _).apart ne_t7_t8 _ _)
                                  have BF_ : Hid (Below W9.heap.size W9 (World.setCell (World.setCell (World.setCell wt27 ⟨gb_t8, 0, none⟩ (.int .i64 d1)) ⟨gb_t8, 1, none⟩ (.int .i64 d2)) ⟨gb_t8, 2, none⟩ (.int .i64 d3))) := Lib.hid (Below.setCell (Below.setCell (Below.setCell BF.out (p := ⟨gb_t8, 0, none⟩) (t8_lo.out) _) (p := ⟨gb_t8, 1, none⟩) (t8_lo.out) _) (p := ⟨gb_t8, 2, none⟩) (t8_lo.out) _)
                                  generalize hWF_ : (World.setCell (World.setCell (World.setCell wt27 ⟨gb_t8, 0, none⟩ (.int .i64 d1)) ⟨gb_t8, 1, none⟩ (.int .i64 d2)) ⟨gb_t8, 2, none⟩ (.int .i64 d3)) = wt28 at t8_f BF_ t7_g ⊢
                                  clear hWF_
                                  have BF := BF_
                                  have t7_f := t7_g
                                  refine hK _ _ (SF.out _ BF.out) ?_
                                  clear hK K
                                  refine tree_pure (i := 12) (v := ?_) rfl rfl (by kernel_rfl) (by kernel_rfl) (by kernel_rfl) rfl (fun W hS => ?_) (SF.out _ BF.out) ?_
                                  rotate_left
                                  · conv => lhs; simp [go_sem]
                                    first | done | exact rfl
                                  simp only [Act.put, List.getElem_toArray, List.getElem_cons_zero, List.getElem_cons_succ, List.setIfInBounds_toArray, List.set_cons_zero, List.set_cons_succ]
                                  refine tree_end (by kernel_rfl) ?_
                                  go_wp2_with fail
                                  go_meet
                                  exact ⟨_, _, rfl, rfl, rfl, t7_f, BF⟩
                      · refine ⟨_, rfl, fun K hK => ?_⟩
                        go_wp2
                        obtain ⟨wt29, hW⟩ : ∃ X, X = World.alloc Wd0 (.cells #[.int .i64 0, .int .i64 0, .int .i64 0] 39) := ⟨_, rfl⟩
                        have bt29 : Hid (Below (Wd0).heap.size (Wd0) wt29) := Lib.hid (by rw [hW]; exact bx1 _ _ _)
                        have t7_ : Hid (Own wt29 (Wd0).heap.size 39 #[.int .i64 0, .int .i64 0, .int .i64 0]) := Lib.hid (by rw [hW]; exact Own.made _ _ _)
                        have t7_lo : Hid (W9.heap.size ≤ (Wd0).heap.size) := Lib.hid B1.out.size
                        replace B1 := Lib.hid (then_ B1.out bt29.out B1.out.size)
                        rw [← hW]
                        obtain ⟨gb_t7, hg_t7⟩ : ∃ g, g = (Wd0).heap.size := ⟨_, rfl⟩
                        rw [← hg_t7] at t7_ t7_lo  ⊢
                        clear hW hg_t7
                        have t7 := t7_
                        refine hK _ _ (SF.out _ B1.out) ?_
                        clear hK K
                        refine tree_two (i := 1) (k := 9) (by kernel_rfl) rfl rfl ?_ ?_
                        · refine ⟨_, rfl, fun K hK => ?_⟩
                          go_wp2_with (go_at_call 11; refine (PL.out _ (then_ BW9.out B1.out BW9.out.size)).mono ?_; rintro e wt30 ⟨rfl, bt30⟩; replace bt30 := Lib.hid bt30)
                          replace B1 := Lib.hid (then_ B1.out bt30.out B1.out.size)
                          replace t7 := Lib.hid (t7.out.keep bt30.out)
                          refine hK _ _ (SF.out _ B1.out) ?_
                          clear hK K
                          refine tree_two (i := 3) (k := 9) (by kernel_rfl) rfl rfl ?_ ?_
                          · refine ⟨_, rfl, fun K hK => ?_⟩
                            go_wp2_with (go_at_call 16; refine (ENY.out _ (then_ BW9.out B1.out BW9.out.size)).mono ?_; rintro e wt31 ⟨rfl, bt31⟩; replace bt31 := Lib.hid bt31)
                            replace B1 := Lib.hid (then_ B1.out bt31.out B1.out.size)
                            replace t7 := Lib.hid (t7.out.keep bt31.out)
                            refine hK _ _ (SF.out _ B1.out) ?_
                            clear hK K
                            refine tree_pure (i := 4) (v := ?_) rfl rfl (by kernel_rfl) (by kernel_rfl) (by kernel_rfl) rfl (fun W hS => ?_) (SF.out _ B1.out) ?_
                            rotate_left
                            · conv => lhs; simp [go_sem]
                              first | done | exact rfl
                            simp only [Act.put, List.getElem_toArray, List.getElem_cons_zero, List.getElem_cons_succ, List.setIfInBounds_toArray, List.set_cons_zero, List.set_cons_succ]
                            refine tree_pure (i := 5) (v := ?_) rfl rfl (by kernel_rfl) (by kernel_rfl) (by kernel_rfl) rfl (fun W hS => ?_) (SF.out _ B1.out) ?_
                            rotate_left
                            · conv => lhs; simp [go_sem]
                              first | done | exact rfl
                            simp only [Act.put, List.getElem_toArray, List.getElem_cons_zero, List.getElem_cons_succ, List.setIfInBounds_toArray, List.set_cons_zero, List.set_cons_succ]
                            refine tree_pure (i := 6) (v := ?_) rfl rfl (by kernel_rfl) (by kernel_rfl) (by kernel_rfl) rfl (fun W hS => ?_) (SF.out _ B1.out) ?_
                            rotate_left
                            · conv => lhs; simp [go_sem]
                              first | done | exact rfl
                            simp only [Act.put, List.getElem_toArray, List.getElem_cons_zero, List.getElem_cons_succ, List.setIfInBounds_toArray, List.set_cons_zero, List.set_cons_succ]
                            refine tree_pure (i := 7) (v := ?_) rfl rfl (by kernel_rfl) (by kernel_rfl) (by kernel_rfl) rfl (fun W hS => ?_) (SF.out _ B1.out) ?_
                            rotate_left
                            · conv => lhs; simp [go_sem]
                              first | done | exact rfl
                            simp only [Act.put, List.getElem_toArray, List.getElem_cons_zero, List.getElem_cons_succ, List.setIfInBounds_toArray, List.set_cons_zero, List.set_cons_succ]
                            refine tree_one (i := 9) (by kernel_rfl) rfl ?_
                            · refine ⟨_, rfl, fun K hK => ?_⟩
                              go_wp2
                              obtain ⟨wt32, hW⟩ : ∃ X, X = World.alloc wt31 (.cells #[.int .i64 0, .int .i64 0, .int .i64 0] 39) := ⟨_, rfl⟩
                              have bt32 : Hid (Below (wt31).heap.size (wt31) wt32) := Lib.hid (by rw [hW]; exact bx1 _ _ _)
                              have t8_ : Hid (Own wt32 (wt31).heap.size 39 #[.int .i64 0, .int .i64 0, .int .i64 0]) := Lib.hid (by rw [hW]; exact Own.made _ _ _)
                              have t8_lo : Hid (W9.heap.size ≤ (wt31).heap.size) := Lib.hid B1.out.size
                              have ne_t8_t7 : (wt31).heap.size ≠ gb_t7 := fun e => by have := t7.out.in_; omega
                              replace B1 := Lib.hid (then_ B1.out bt32.out B1.out.size)
                              replace t7 := Lib.hid (t7.out.keep bt32.out)
                              rw [← hW]
                              obtain ⟨gb_t8, hg_t8⟩ : ∃ g, g = (wt31).heap.size := ⟨_, rfl⟩
                              rw [← hg_t8] at t8_ t8_lo ne_t8_t7 ⊢
                              clear hW hg_t8
                              have ne_t7_t8 := Ne.symm ne_t8_t7
                              have t8 := t8_
                              refine hK _ _ (SF.out _ B1.out) ?_
                              clear hK K
                              refine tree_one (i := 10) (by kernel_rfl) rfl ?_
                              · refine ⟨_, rfl, fun K hK => ?_⟩
                                obtain ⟨fz1, fz2, fz3⟩ := t7.out.at_
                                go_wp2
                                clear fz1 fz2 fz3
                                have t7_f : Hid (Own (World.setCell (World.setCell (World.setCell wt32 ⟨gb_t7, 0, none⟩ (.int .i64 b1)) ⟨gb_t7, 1, none⟩ (.int .i64 b2)) ⟨gb_t7, 2, none⟩ (.int .i64 b3)) gb_t7 39 #[.int .i64 b1, .int .i64 b2, .int .i64 b3]) := Lib.hid ((((t7.out.put 0 _).put 1 _).put 2 _).as (by simp))
                                have t8_g : Hid (Own (World.setCell (World.setCell (World.setCell wt32 ⟨gb_t7, 0, none⟩ (.int .i64 b1)) ⟨gb_t7, 1, none⟩ (.int .i64 b2)) ⟨gb_t7, 2, none⟩ (.int .i64 b3)) gb_t8 39 #[.int .i64 0, .int .i64 0, .int .i64 0]) := Lib.hid (((t8.out.apart ne_t8_t7 _ _).apart ne_t8_t7 _ _).apart ne_t8_t7 _ _)
                                have BF_ : Hid (Below W9.heap.size W9 (World.setCell (World.setCell (World.setCell wt32 ⟨gb_t7, 0, none⟩ (.int .i64 b1)) ⟨gb_t7, 1, none⟩ (.int .i64 b2)) ⟨gb_t7, 2, none⟩ (.int .i64 b3))) := Lib.hid (Below.setCell (Below.setCell (Below.setCell B1.out (p := ⟨gb_t7, 0, none⟩) (t7_lo.out) _) (p := ⟨gb_t7, 1, none⟩) (t7_lo.out) _) (p := ⟨gb_t7, 2, none⟩) (t7_lo.out) _)
                                generalize hWF_ : (World.setCell (World.setCell (World.setCell wt32 ⟨gb_t7, 0, none⟩ (.int .i64 b1)) ⟨gb_t7, 1, none⟩ (.int .i64 b2)) ⟨gb_t7, 2, none⟩ (.int .i64 b3)) = wt33 at t7_f BF_ t8_g ⊢
                                clear hWF_
                                have BF := BF_
                                have t8_f := t8_g
                                refine hK _ _ (SF.out _ BF.out) ?_
                                clear hK K
                                refine tree_one (i := 11) (by kernel_rfl) rfl ?_
                                · refine ⟨_, rfl, fun K hK => ?_⟩
                                  obtain ⟨fz1, fz2, fz3⟩ := t8_f.out.at_
                                  go_wp2
                                  clear fz1 fz2 fz3
                                  have t8_f : Hid (Own (World.setCell (World.setCell (World.setCell wt33 ⟨gb_t8, 0, none⟩ (.int .i64 d1)) ⟨gb_t8, 1, none⟩ (.int .i64 d2)) ⟨gb_t8, 2, none⟩ (.int .i64 d3)) gb_t8 39 #[.int .i64 d1, .int .i64 d2, .int .i64 d3]) := Lib.hid ((((t8_f.out.put 0 _).put 1 _).put 2 _).as (by simp))
                                  have t7_g : Hid (Own (World.setCell (World.setCell (World.setCell wt33 ⟨gb_t8, 0, none⟩ (.int .i64 d1)) ⟨gb_t8, 1, none⟩ (.int .i64 d2)) ⟨gb_t8, 2, none⟩ (.int .i64 d3)) gb_t7 39 #[.int .i64 b1, .int .i64 b2, .int .i64 b3]) := Lib.hid (((t7_f.out.apart ne_t7_t8 _ _).apart ne_t7_t8 _ _).apart ne_t7_t8 _ _)
                                  have BF_ : Hid (Below W9.heap.size W9 (World.setCell (World.setCell (World.setCell wt33 ⟨gb_t8, 0, none⟩ (.int .i64 d1)) ⟨gb_t8, 1, none⟩ (.int .i64 d2)) ⟨gb_t8, 2, none⟩ (.int .i64 d3))) := Lib.hid (Below.setCell (Below.setCell (Below.setCell BF.out (p := ⟨gb_t8, 0, none⟩) (t8_lo.out) _) (p := ⟨gb_t8, 1, none⟩) (t8_lo.out) _) (p := ⟨gb_t8, 2, none⟩) (t8_lo.out) _)
                                  generalize hWF_ : (World.setCell (World.setCell (World.setCell wt33 ⟨gb_t8, 0, none⟩ (.int .i64 d1)) ⟨gb_t8, 1, none⟩ (.int .i64 d2)) ⟨gb_t8, 2, none⟩ (.int .i64 d3)) = wt34 at t8_f BF_ t7_g ⊢
                                  clear hWF_
                                  have BF := BF_
                                  have t7_f := t7_g
                                  refine hK _ _ (SF.out _ BF.out) ?_
                                  clear hK K
                                  refine tree_pure (i := 12) (v := ?_) rfl rfl (by kernel_rfl) (by kernel_rfl) (by kernel_rfl) rfl (fun W hS => ?_) (SF.out _ BF.out) ?_
                                  rotate_left
                                  · conv => lhs; simp [go_sem]
                                    first | done | exact rfl
                                  simp only [Act.put, List.getElem_toArray, List.getElem_cons_zero, List.getElem_cons_succ, List.setIfInBounds_toArray, List.set_cons_zero, List.set_cons_succ]
                                  refine tree_end (by kernel_rfl) ?_
                                  go_wp2_with fail
                                  go_meet
                                  exact ⟨_, _, rfl, rfl, rfl, t7_f, BF⟩
                          · refine ⟨_, rfl, fun K hK => ?_⟩
                            go_wp2
                            obtain ⟨wt35, hW⟩ : ∃ X, X = World.alloc wt30 (.cells #[.int .i64 0, .int .i64 0, .int .i64 0] 39) := ⟨_, rfl⟩
                            have bt35 : Hid (Below (wt30).heap.size (wt30) wt35) := Lib.hid (by rw [hW]; exact bx1 _ _ _)
                            have t8_ : Hid (Own wt35 (wt30).heap.size 39 #[.int .i64 0, .int .i64 0, .int .i64 0]) := Lib.hid (by rw [hW]; exact Own.made _ _ _)
                            have t8_lo : Hid (W9.heap.size ≤ (wt30).heap.size) := Lib.hid B1.out.size
                            have ne_t8_t7 : (wt30).heap.size ≠ gb_t7 := fun e => by have := t7.out.in_; omega
                            replace B1 := Lib.hid (then_ B1.out bt35.out B1.out.size)
                            replace t7 := Lib.hid (t7.out.keep bt35.out)
                            rw [← hW]
                            obtain ⟨gb_t8, hg_t8⟩ : ∃ g, g = (wt30).heap.size := ⟨_, rfl⟩
                            rw [← hg_t8] at t8_ t8_lo ne_t8_t7 ⊢
                            clear hW hg_t8
                            have ne_t7_t8 := Ne.symm ne_t8_t7
                            have t8 := t8_
                            refine hK _ _ (SF.out _ B1.out) ?_
                            clear hK K
                            refine tree_one (i := 3) (by kernel_rfl) rfl ?_
                            · refine ⟨_, rfl, fun K hK => ?_⟩
                              go_wp2_with (go_at_call 16; refine (ENY.out _ (then_ BW9.out B1.out BW9.out.size)).mono ?_; rintro e wt36 ⟨rfl, bt36⟩; replace bt36 := Lib.hid bt36)
                              replace B1 := Lib.hid (then_ B1.out bt36.out B1.out.size)
                              replace t7 := Lib.hid (t7.out.keep bt36.out)
                              replace t8 := Lib.hid (t8.out.keep bt36.out)
                              refine hK _ _ (SF.out _ B1.out) ?_
                              clear hK K
                              refine tree_pure (i := 4) (v := ?_) rfl rfl (by kernel_rfl) (by kernel_rfl) (by kernel_rfl) rfl (fun W hS => ?_) (SF.out _ B1.out) ?_
                              rotate_left
                              · conv => lhs; simp [go_sem]
                                first | done | exact rfl
                              simp only [Act.put, List.getElem_toArray, List.getElem_cons_zero, List.getElem_cons_succ, List.setIfInBounds_toArray, List.set_cons_zero, List.set_cons_succ]
                              refine tree_pure (i := 5) (v := ?_) rfl rfl (by kernel_rfl) (by kernel_rfl) (by kernel_rfl) rfl (fun W hS => ?_) (SF.out _ B1.out) ?_
                              rotate_left
                              · conv => lhs; simp [go_sem]
                                first | done | exact rfl
                              simp only [Act.put, List.getElem_toArray, List.getElem_cons_zero, List.getElem_cons_succ, List.setIfInBounds_toArray, List.set_cons_zero, List.set_cons_succ]
                              refine tree_pure (i := 6) (v := ?_) rfl rfl (by kernel_rfl) (by kernel_rfl) (by kernel_rfl) rfl (fun W hS => ?_) (SF.out _ B1.out) ?_
                              rotate_left
                              · conv => lhs; simp [go_sem]
                                first | done | exact rfl
                              simp only [Act.put, List.getElem_toArray, List.getElem_cons_zero, List.getElem_cons_succ, List.setIfInBounds_toArray, List.set_cons_zero, List.set_cons_succ]
                              refine tree_pure (i := 7) (v := ?_) rfl rfl (by kernel_rfl) (by kernel_rfl) (by kernel_rfl) rfl (fun W hS => ?_) (SF.out _ B1.out) ?_
                              rotate_left
                              · conv => lhs; simp [go_sem]
                                first | done | exact rfl
                              simp only [Act.put, List.getElem_toArray, List.getElem_cons_zero, List.getElem_cons_succ, List.setIfInBounds_toArray, List.set_cons_zero, List.set_cons_succ]
                              refine tree_one (i := 10) (by kernel_rfl) rfl ?_
                              · refine ⟨_, rfl, fun K hK => ?_⟩
                                obtain ⟨fz1, fz2, fz3⟩ := t7.out.at_
                                go_wp2
                                clear fz1 fz2 fz3
                                have t7_f : Hid (Own (World.setCell (World.setCell (World.setCell wt36 ⟨gb_t7, 0, none⟩ (.int .i64 b1)) ⟨gb_t7, 1, none⟩ (.int .i64 b2)) ⟨gb_t7, 2, none⟩ (.int .i64 b3)) gb_t7 39 #[.int .i64 b1, .int .i64 b2, .int .i64 b3]) := Lib.hid ((((t7.out.put 0 _).put 1 _).put 2 _).as (by simp))
                                have t8_g : Hid (Own (World.setCell (World.setCell (World.setCell wt36 ⟨gb_t7, 0, none⟩ (.int .i64 b1)) ⟨gb_t7, 1, none⟩ (.int .i64 b2)) ⟨gb_t7, 2, none⟩ (.int .i64 b3)) gb_t8 39 #[.int .i64 0, .int .i64 0, .int .i64 0]) := Lib.hid (((t8.out.apart ne_t8_t7 _ _).apart ne_t8_t7 _ _).apart ne_t8_t7 _ _)
                                have BF_ : Hid (Below W9.heap.size W9 (World.setCell (World.setCell (World.setCell wt36 ⟨gb_t7, 0, none⟩ (.int .i64 b1)) ⟨gb_t7, 1, none⟩ (.int .i64 b2)) ⟨gb_t7, 2, none⟩ (.int .i64 b3))) := Lib.hid (Below.setCell (Below.setCell (Below.setCell B1.out (p := ⟨gb_t7, 0, none⟩) (t7_lo.out) _) (p := ⟨gb_t7, 1, none⟩) (t7_lo.out) _) (p := ⟨gb_t7, 2, none⟩) (t7_lo.out) _)
                                generalize hWF_ : (World.setCell (World.setCell (World.setCell wt36 ⟨gb_t7, 0, none⟩ (.int .i64 b1)) ⟨gb_t7, 1, none⟩ (.int .i64 b2)) ⟨gb_t7, 2, none⟩ (.int .i64 b3)) = wt37 at t7_f BF_ t8_g ⊢
                                clear hWF_
                                have BF := BF_
                                have t8_f := t8_g
                                refine hK _ _ (SF.out _ BF.out) ?_
                                clear hK K
                                refine tree_one (i := 11) (by kernel_rfl) rfl ?_
                                · refine ⟨_, rfl, fun K hK => ?_⟩
                                  obtain ⟨fz1, fz2, fz3⟩ := t8_f.out.at_
                                  go_wp2
                                  clear fz1 fz2 fz3
                                  have t8_f : Hid (Own (World.setCell (World.setCell (World.setCell wt37 ⟨gb_t8, 0, none⟩ (.int .i64 d1)) ⟨gb_t8, 1, none⟩ (.int .i64 d2)) ⟨gb_t8, 2, none⟩ (.int .i64 d3)) gb_t8 39 #[.int .i64 d1, .int .i64 d2, .int .i64 d3]) := Lib.hid ((((t8_f.out.put 0 _).put 1 _).put 2 _).as (by simp))
                                  have t7_g : Hid (Own (World.setCell (World.setCell (World.setCell wt37 ⟨gb_t8, 0, none⟩ (.int .i64 d1)) ⟨gb_t8, 1, none⟩ (.int .i64 d2)) ⟨gb_t8, 2, none⟩ (.int .i64 d3)) gb_t7 39 #[.int .i64 b1, .int .i64 b2, .int .i64 b3]) := Lib.hid (((t7_f.out.apart ne_t7_t8 _ _).apart ne_t7_t8 _ _).apart ne_t7_t8 _ _)
                                  have BF_ : Hid (Below W9.heap.size W9 (World.setCell (World.setCell (World.setCell wt37 ⟨gb_t8, 0, none⟩ (.int .i64 d1)) ⟨gb_t8, 1, none⟩ (.int .i64 d2)) ⟨gb_t8, 2, none⟩ (.int .i64 d3))) := Lib.hid (Below.setCell (Below.setCell (Below.setCell BF.out (p := ⟨gb_t8, 0, none⟩) (t8_lo.out) _) (p := ⟨gb_t8, 1, none⟩) (t8_lo.out) _) (p := ⟨gb_t8, 2, none⟩) (t8_lo.out) _)
                                  generalize hWF_ : (World.setCell (World.setCell (World.setCell wt37 ⟨gb_t8, 0, none⟩ (.int .i64 d1)) ⟨gb_t8, 1, none⟩ (.int .i64 d2)) ⟨gb_t8, 2, none⟩ (.int .i64 d3)) = wt38 at t8_f BF_ t7_g ⊢
                                  clear hWF_
                                  have BF := BF_
                                  have t7_f := t7_g
                                  refine hK _ _ (SF.out _ BF.out) ?_
                                  clear hK K
                                  refine tree_pure (i := 12) (v := ?_) rfl rfl (by kernel_rfl) (by kernel_rfl) (by kernel_rfl) rfl (fun W hS => ?_) (SF.out _ BF.out) ?_
                                  rotate_left
                                  · conv => lhs; simp [go_sem]
                                    first | done | exact rfl
                                  simp only [Act.put, List.getElem_toArray, List.getElem_cons_zero, List.getElem_cons_succ, List.setIfInBounds_toArray, List.set_cons_zero, List.set_cons_succ]
                                  refine tree_end (by kernel_rfl) ?_
                                  go_wp2_with fail
                                  go_meet
                                  exact ⟨_, _, rfl, rfl, rfl, t7_f, BF⟩
                        · refine ⟨_, rfl, fun K hK => ?_⟩
                          go_wp2
                          obtain ⟨wt39, hW⟩ : ∃ X, X = World.alloc wt29 (.cells #[.int .i64 0, .int .i64 0, .int .i64 0] 39) := ⟨_, rfl⟩
                          have bt39 : Hid (Below (wt29).heap.size (wt29) wt39) := Lib.hid (by rw [hW]; exact bx1 _ _ _)
                          have t8_ : Hid (Own wt39 (wt29).heap.size 39 #[.int .i64 0, .int .i64 0, .int .i64 0]) := Lib.hid (by rw [hW]; exact Own.made _ _ _)
                          have t8_lo : Hid (W9.heap.size ≤ (wt29).heap.size) := Lib.hid B1.out.size
                          have ne_t8_t7 : (wt29).heap.size ≠ gb_t7 := fun e => by have := t7.out.in_; omega
                          replace B1 := Lib.hid (then_ B1.out bt39.out B1.out.size)
                          replace t7 := Lib.hid (t7.out.keep bt39.out)
                          rw [← hW]
                          obtain ⟨gb_t8, hg_t8⟩ : ∃ g, g = (wt29).heap.size := ⟨_, rfl⟩
                          rw [← hg_t8] at t8_ t8_lo ne_t8_t7 ⊢
                          clear hW hg_t8
                          have ne_t7_t8 := Ne.symm ne_t8_t7
                          have t8 := t8_
                          refine hK _ _ (SF.out _ B1.out) ?_
                          clear hK K
                          refine tree_one (i := 1) (by kernel_rfl) rfl ?_
                          · refine ⟨_, rfl, fun K hK => ?_⟩
                            go_wp2_with (go_at_call 11; refine (PL.out _ (then_ BW9.out B1.out BW9.out.size)).mono ?_; rintro e wt40 ⟨rfl, bt40⟩; replace bt40 := Lib.hid bt40)
                            replace B1 := Lib.hid (then_ B1.out bt40.out B1.out.size)
                            replace t7 := Lib.hid (t7.out.keep bt40.out)
                            replace t8 := Lib.hid (t8.out.keep bt40.out)
                            refine hK _ _ (SF.out _ B1.out) ?_
                            clear hK K
                            refine tree_one (i := 3) (by kernel_rfl) rfl ?_
                            · refine ⟨_, rfl, fun K hK => ?_⟩
                              go_wp2_with (go_at_call 16; refine (ENY.out _ (then_ BW9.out B1.out BW9.out.size)).mono ?_; rintro e wt41 ⟨rfl, bt41⟩; replace bt41 := Lib.hid bt41)
                              replace B1 := Lib.hid (then_ B1.out bt41.out B1.out.size)
                              replace t7 := Lib.hid (t7.out.keep bt41.out)
                              replace t8 := Lib.hid (t8.out.keep bt41.out)
                              refine hK _ _ (SF.out _ B1.out) ?_
                              clear hK K
                              refine tree_pure (i := 4) (v := ?_) rfl rfl (by kernel_rfl) (by kernel_rfl) (by kernel_rfl) rfl (fun W hS => ?_) (SF.out _ B1.out) ?_
                              rotate_left
                              · conv => lhs; simp [go_sem]
                                first | done | exact rfl
                              simp only [Act.put, List.getElem_toArray, List.getElem_cons_zero, List.getElem_cons_succ, List.setIfInBounds_toArray, List.set_cons_zero, List.set_cons_succ]
                              refine tree_pure (i := 5) (v := ?_) rfl rfl (by kernel_rfl) (by kernel_rfl) (by kernel_rfl) rfl (fun W hS => ?_) (SF.out _ B1.out) ?_
                              rotate_left
                              · conv => lhs; simp [go_sem]
                                first | done | exact rfl
                              simp only [Act.put, List.getElem_toArray, List.getElem_cons_zero, List.getElem_cons_succ, List.setIfInBounds_toArray, List.set_cons_zero, List.set_cons_succ]
                              refine tree_pure (i := 6) (v := ?_) rfl rfl (by kernel_rfl) (by kernel_rfl) (by kernel_rfl) rfl (fun W hS => ?_) (SF.out _ B1.out) ?_
                              rotate_left
                              · conv => lhs; simp [go_sem]
                                first | done | exact rfl
                              simp only [Act.put, List.getElem_toArray, List.getElem_cons_zero, List.getElem_cons_succ, List.setIfInBounds_toArray, List.set_cons_zero, List.set_cons_succ]
                              refine tree_pure (i := 7) (v := ?_) rfl rfl (by kernel_rfl) (by kernel_rfl) (by kernel_rfl) rfl (fun W hS => ?_) (SF.out _ B1.out) ?_
                              rotate_left
                              · conv => lhs; simp [go_sem]
                                first | done | exact rfl
                              simp only [Act.put, List.getElem_toArray, List.getElem_cons_zero, List.getElem_cons_succ, List.setIfInBounds_toArray, List.set_cons_zero, List.set_cons_succ]
                              refine tree_one (i := 10) (by kernel_rfl) rfl ?_
                              · refine ⟨_, rfl, fun K hK => ?_⟩
                                obtain ⟨fz1, fz2, fz3⟩ := t7.out.at_
                                go_wp2
                                clear fz1 fz2 fz3
                                have t7_f : Hid (Own (World.setCell (World.setCell (World.setCell wt41 ⟨gb_t7, 0, none⟩ (.int .i64 b1)) ⟨gb_t7, 1, none⟩ (.int .i64 b2)) ⟨gb_t7, 2, none⟩ (.int .i64 b3)) gb_t7 39 #[.int .i64 b1, .int .i64 b2, .int .i64 b3]) := Lib.hid ((((t7.out.put 0 _).put 1 _).put 2 _).as (by simp))
                                have t8_g : Hid (Own (World.setCell (World.setCell (World.setCell wt41 ⟨gb_t7, 0, none⟩ (.int .i64 b1)) ⟨gb_t7, 1, none⟩ (.int .i64 b2)) ⟨gb_t7, 2, none⟩ (.int .i64 b3)) gb_t8 39 #[.int .i64 0, .int .i64 0, .int .i64 0]) := Lib.hid (((t8.out.apart ne_t8_t7 _ _).apart ne_t8_t7 _ _).apart ne_t8_t7 _ _)
                                have BF_ : Hid (Below W9.heap.size W9 (World.setCell (World.setCell (World.setCell wt41 ⟨gb_t7, 0, none⟩ (.int .i64 b1)) ⟨gb_t7, 1, none⟩ (.int .i64 b2)) ⟨gb_t7, 2, none⟩ (.int .i64 b3))) := Lib.hid (Below.setCell (Below.setCell (Below.setCell B1.out (p := ⟨gb_t7, 0, none⟩) (t7_lo.out) _) (p := ⟨gb_t7, 1, none⟩) (t7_lo.out) _) (p := ⟨gb_t7, 2, none⟩) (t7_lo.out) _)
                                generalize hWF_ : (World.setCell (World.setCell (World.setCell wt41 ⟨gb_t7, 0, none⟩ (.int .i64 b1)) ⟨gb_t7, 1, none⟩ (.int .i64 b2)) ⟨gb_t7, 2, none⟩ (.int .i64 b3)) = wt42 at t7_f BF_ t8_g ⊢
                                clear hWF_
                                have BF := BF_
                                have t8_f := t8_g
                                refine hK _ _ (SF.out _ BF.out) ?_
                                clear hK K
                                refine tree_one (i := 11) (by kernel_rfl) rfl ?_
                                · refine ⟨_, rfl, fun K hK => ?_⟩
                                  obtain ⟨fz1, fz2, fz3⟩ := t8_f.out.at_
                                  go_wp2
                                  clear fz1 fz2 fz3
                                  have t8_f : Hid (Own (World.setCell (World.setCell (World.setCell wt42 ⟨gb_t8, 0, none⟩ (.int .i64 d1)) ⟨gb_t8, 1, none⟩ (.int .i64 d2)) ⟨gb_t8, 2, none⟩ (.int .i64 d3)) gb_t8 39 #[.int .i64 d1, .int .i64 d2, .int .i64 d3]) := Lib.hid ((((t8_f.out.put 0 _).put 1 _).put 2 _).as (by simp))
                                  have t7_g : Hid (Own (World.setCell (World.setCell (World.setCell wt42 ⟨gb_t8, 0, none⟩ (.int .i64 d1)) ⟨gb_t8, 1, none⟩ (.int .i64 d2)) ⟨gb_t8, 2, none⟩ (.int .i64 d3)) gb_t7 39 #[.int .i64 b1, .int .i64 b2, .int .i64 b3]) := Lib.hid (((t7_f.out.apart ne_t7_t8 _ _).apart ne_t7_t8 _ _).apart ne_t7_t8 _ _)
                                  have BF_ : Hid (Below W9.heap.size W9 (World.setCell (World.setCell (World.setCell wt42 ⟨gb_t8, 0, none⟩ (.int .i64 d1)) ⟨gb_t8, 1, none⟩ (.int .i64 d2)) ⟨gb_t8, 2, none⟩ (.int .i64 d3))) := Lib.hid (Below.setCell (Below.setCell (Below.setCell BF.out (p := ⟨gb_t8, 0, none⟩) (t8_lo.out) _) (p := ⟨gb_t8, 1, none⟩) (t8_lo.out) _) (p := ⟨gb_t8, 2, none⟩) (t8_lo.out) _)
                                  generalize hWF_ : (World.setCell (World.setCell (World.setCell wt42 ⟨gb_t8, 0, none⟩ (.int .i64 d1)) ⟨gb_t8, 1, none⟩ (.int .i64 d2)) ⟨gb_t8, 2, none⟩ (.int .i64 d3)) = wt43 at t8_f BF_ t7_g ⊢
                                  clear hWF_
                                  have BF := BF_
                                  have t7_f := t7_g
                                  refine hK _ _ (SF.out _ BF.out) ?_
                                  clear hK K
                                  refine tree_pure (i := 12) (v := ?_) rfl rfl (by kernel_rfl) (by kernel_rfl) (by kernel_rfl) rfl (fun W hS => ?_) (SF.out _ BF.out) ?_
                                  rotate_left
                                  · conv => lhs; simp [go_sem]
                                    first | done | exact rfl
                                  simp only [Act.put, List.getElem_toArray, List.getElem_cons_zero, List.getElem_cons_succ, List.setIfInBounds_toArray, List.set_cons_zero, List.set_cons_succ]
                                  refine tree_end (by kernel_rfl) ?_
                                  go_wp2_with fail
                                  go_meet
                                  exact ⟨_, _, rfl, rfl, rfl, t7_f, BF⟩
                      · refine ⟨_, rfl, fun K hK => ?_⟩
                        go_wp2
                        obtain ⟨wt44, hW⟩ : ∃ X, X = World.alloc Wd0 (.cells #[.int .i64 0, .int .i64 0, .int .i64 0] 39) := ⟨_, rfl⟩
                        have bt44 : Hid (Below (Wd0).heap.size (Wd0) wt44) := Lib.hid (by rw [hW]; exact bx1 _ _ _)
                        have t8_ : Hid (Own wt44 (Wd0).heap.size 39 #[.int .i64 0, .int .i64 0, .int .i64 0]) := Lib.hid (by rw [hW]; exact Own.made _ _ _)
                        have t8_lo : Hid (W9.heap.size ≤ (Wd0).heap.size) := Lib.hid B1.out.size
                        replace B1 := Lib.hid (then_ B1.out bt44.out B1.out.size)
                        rw [← hW]
                        obtain ⟨gb_t8, hg_t8⟩ : ∃ g, g = (Wd0).heap.size := ⟨_, rfl⟩
                        rw [← hg_t8] at t8_ t8_lo  ⊢
                        clear hW hg_t8
                        have t8 := t8_
                        refine hK _ _ (SF.out _ B1.out) ?_
                        clear hK K
                        refine tree_two (i := 1) (k := 8) (by kernel_rfl) rfl rfl ?_ ?_
                        · refine ⟨_, rfl, fun K hK => ?_⟩
                          go_wp2_with (go_at_call 11; refine (PL.out _ (then_ BW9.out B1.out BW9.out.size)).mono ?_; rintro e wt45 ⟨rfl, bt45⟩; replace bt45 := Lib.hid bt45)
                          replace B1 := Lib.hid (then_ B1.out bt45.out B1.out.size)
                          replace t8 := Lib.hid (t8.out.keep bt45.out)
                          refine hK _ _ (SF.out _ B1.out) ?_
                          clear hK K
                          refine tree_two (i := 3) (k := 8) (by kernel_rfl) rfl rfl ?_ ?_
                          · refine ⟨_, rfl, fun K hK => ?_⟩
                            go_wp2_with (go_at_call 16; refine (ENY.out _ (then_ BW9.out B1.out BW9.out.size)).mono ?_; rintro e wt46 ⟨rfl, bt46⟩; replace bt46 := Lib.hid bt46)
                            replace B1 := Lib.hid (then_ B1.out bt46.out B1.out.size)
                            replace t8 := Lib.hid (t8.out.keep bt46.out)
                            refine hK _ _ (SF.out _ B1.out) ?_
                            clear hK K
                            refine tree_pure (i := 4) (v := ?_) rfl rfl (by kernel_rfl) (by kernel_rfl) (by kernel_rfl) rfl (fun W hS => ?_) (SF.out _ B1.out) ?_
                            rotate_left
                            · conv => lhs; simp [go_sem]
                              first | done | exact rfl
                            simp only [Act.put, List.getElem_toArray, List.getElem_cons_zero, List.getElem_cons_succ, List.setIfInBounds_toArray, List.set_cons_zero, List.set_cons_succ]
                            refine tree_pure (i := 5) (v := ?_) rfl rfl (by kernel_rfl) (by kernel_rfl) (by kernel_rfl) rfl (fun W hS => ?_) (SF.out _ B1.out) ?_
                            rotate_left
                            · conv => lhs; simp [go_sem]
                              first | done | exact rfl
                            simp only [Act.put, List.getElem_toArray, List.getElem_cons_zero, List.getElem_cons_succ, List.setIfInBounds_toArray, List.set_cons_zero, List.set_cons_succ]
                            refine tree_pure (i := 6) (v := ?_) rfl rfl (by kernel_rfl) (by kernel_rfl) (by kernel_rfl) rfl (fun W hS => ?_) (SF.out _ B1.out) ?_
                            rotate_left
                            · conv => lhs; simp [go_sem]
                              first | done | exact rfl
                            simp only [Act.put, List.getElem_toArray, List.getElem_cons_zero, List.getElem_cons_succ, List.setIfInBounds_toArray, List.set_cons_zero, List.set_cons_succ]
                            refine tree_pure (i := 7) (v := ?_) rfl rfl (by kernel_rfl) (by kernel_rfl) (by kernel_rfl) rfl (fun W hS => ?_) (SF.out _ B1.out) ?_
                            rotate_left
                            · conv => lhs; simp [go_sem]
                              first | done | exact rfl
                            simp only [Act.put, List.getElem_toArray, List.getElem_cons_zero, List.getElem_cons_succ, List.setIfInBounds_toArray, List.set_cons_zero, List.set_cons_succ]
                            refine tree_one (i := 8) (by kernel_rfl) rfl ?_
                            · refine ⟨_, rfl, fun K hK => ?_⟩
                              go_wp2
                              obtain ⟨wt47, hW⟩ : ∃ X, X = World.alloc wt46 (.cells #[.int .i64 0, .int .i64 0, .int .i64 0] 39) := ⟨_, rfl⟩
                              have bt47 : Hid (Below (wt46).heap.size (wt46) wt47) := Lib.hid (by rw [hW]; exact bx1 _ _ _)
                              have t7_ : Hid (Own wt47 (wt46).heap.size 39 #[.int .i64 0, .int .i64 0, .int .i64 0]) := Lib.hid (by rw [hW]; exact Own.made _ _ _)
                              have t7_lo : Hid (W9.heap.size ≤ (wt46).heap.size) := Lib.hid B1.out.size
                              have ne_t7_t8 : (wt46).heap.size ≠ gb_t8 := fun e => by have := t8.out.in_; omega
                              replace B1 := Lib.hid (then_ B1.out bt47.out B1.out.size)
                              replace t8 := Lib.hid (t8.out.keep bt47.out)
                              rw [← hW]
                              obtain ⟨gb_t7, hg_t7⟩ : ∃ g, g = (wt46).heap.size := ⟨_, rfl⟩
                              rw [← hg_t7] at t7_ t7_lo ne_t7_t8 ⊢
                              clear hW hg_t7
                              have ne_t8_t7 := Ne.symm ne_t7_t8
                              have t7 := t7_
                              refine hK _ _ (SF.out _ B1.out) ?_
                              clear hK K
                              refine tree_one (i := 10) (by kernel_rfl) rfl ?_
                              · refine ⟨_, rfl, fun K hK => ?_⟩
                                obtain ⟨fz1, fz2, fz3⟩ := t7.out.at_
                                go_wp2
                                clear fz1 fz2 fz3
                                have t7_f : Hid (Own (World.setCell (World.setCell (World.setCell wt47 ⟨gb_t7, 0, none⟩ (.int .i64 b1)) ⟨gb_t7, 1, none⟩ (.int .i64 b2)) ⟨gb_t7, 2, none⟩ (.int .i64 b3)) gb_t7 39 #[.int .i64 b1, .int .i64 b2, .int .i64 b3]) := Lib.hid ((((t7.out.put 0 _).put 1 _).put 2 _).as (by simp))
                                have t8_g : Hid (Own (World.setCell (World.setCell (World.setCell wt47 ⟨gb_t7, 0, none⟩ (.int .i64 b1)) ⟨gb_t7, 1, none⟩ (.int .i64 b2)) ⟨gb_t7, 2, none⟩ (.int .i64 b3)) gb_t8 39 #[.int .i64 0, .int .i64 0, .int .i64 0]) := Lib.hid (((t8.out.apart ne_t8_t7 _ _).apart ne_t8_t7 _ _).apart ne_t8_t7 _ _)
                                have BF_ : Hid (Below W9.heap.size W9 (World.setCell (World.setCell (World.setCell wt47 ⟨gb_t7, 0, none⟩ (.int .i64 b1)) ⟨gb_t7, 1, none⟩ (.int .i64 b2)) ⟨gb_t7, 2, none⟩ (.int .i64 b3))) := Lib.hid (Below.setCell (Below.setCell (Below.setCell B1.out (p := ⟨gb_t7, 0, none⟩) (t7_lo.out) _) (p := ⟨gb_t7, 1, none⟩) (t7_lo.out) _) (p := ⟨gb_t7, 2, none⟩) (t7_lo.out) _)
                                generalize hWF_ : (World.setCell (World.setCell (World.setCell wt47 ⟨gb_t7, 0, none⟩ (.int .i64 b1)) ⟨gb_t7, 1, none⟩ (.int .i64 b2)) ⟨gb_t7, 2, none⟩ (.int .i64 b3)) = wt48 at t7_f BF_ t8_g ⊢
                                clear hWF_
                                have BF := BF_
                                have t8_f := t8_g
                                refine hK _ _ (SF.out _ BF.out) ?_
                                clear hK K
                                refine tree_one (i := 11) (by kernel_rfl) rfl ?_
                                · refine ⟨_, rfl, fun K hK => ?_⟩
                                  obtain ⟨fz1, fz2, fz3⟩ := t8_f.out.at_
                                  go_wp2
                                  clear fz1 fz2 fz3
                                  have t8_f : Hid (Own (World.setCell (World.setCell (World.setCell wt48 ⟨gb_t8, 0, none⟩ (.int .i64 d1)) ⟨gb_t8, 1, none⟩ (.int .i64 d2)) ⟨gb_t8, 2, none⟩ (.int .i64 d3)) gb_t8 39 #[.int .i64 d1, .int .i64 d2, .int .i64 d3]) := Lib.hid ((((t8_f.out.put 0 _).put 1 _).put 2 _).as (by simp))
                                  have t7_g : Hid (Own (World.setCell (World.setCell (World.setCell wt48 ⟨gb_t8, 0, none⟩ (.int .i64 d1)) ⟨gb_t8, 1, none⟩ (.int .i64 d2)) ⟨gb_t8, 2, none⟩ (.int .i64 d3)) gb_t7 39 #[.int .i64 b1, .int .i64 b2, .int .i64 b3]) := Lib.hid (((t7_f.out.apart ne_t7_t8 _ _).apart ne_t7_t8 _ _).apart ne_t7_t8 _ _)
                                  have BF_ : Hid (Below W9.heap.size W9 (World.setCell (World.setCell (World.setCell wt48 ⟨gb_t8, 0, none⟩ (.int .i64 d1)) ⟨gb_t8, 1, none⟩ (.int .i64 d2)) ⟨gb_t8, 2, none⟩ (.int .i64 d3))) := Lib.hid (Below.setCell (Below.setCell (Below.setCell BF.out (p := ⟨gb_t8, 0, none⟩) (t8_lo.out) _) (p := ⟨gb_t8, 1, none⟩) (t8_lo.out) _) (p := ⟨gb_t8, 2, none⟩) (t8_lo.out) _)
                                  generalize hWF_ : (World.setCell (World.setCell (World.setCell wt48 ⟨gb_t8, 0, none⟩ (.int .i64 d1)) ⟨gb_t8, 1, none⟩ (.int .i64 d2)) ⟨gb_t8, 2, none⟩ (.int .i64 d3)) = wt49 at t8_f BF_ t7_g ⊢
                                  clear hWF_
                                  have BF := BF_
                                  have t7_f := t7_g
                                  refine hK _ _ (SF.out _ BF.out) ?_
                                  clear hK K
                                  refine tree_pure (i := 12) (v := ?_) rfl rfl (by kernel_rfl) (by kernel_rfl) (by kernel_rfl) rfl (fun W hS => ?_) (SF.out _ BF.out) ?_
                                  rotate_left
                                  · conv => lhs; simp [go_sem]
                                    first | done | exact rfl
                                  simp only [Act.put, List.getElem_toArray, List.getElem_cons_zero, List.getElem_cons_succ, List.setIfInBounds_toArray, List.set_cons_zero, List.set_cons_succ]
                                  refine tree_end (by kernel_rfl) ?_
                                  go_wp2_with fail
                                  go_meet
                                  exact ⟨_, _, rfl, rfl, rfl, t7_f, BF⟩
                          · refine ⟨_, rfl, fun K hK => ?_⟩
                            go_wp2
                            obtain ⟨wt50, hW⟩ : ∃ X, X = World.alloc wt45 (.cells #[.int .i64 0, .int .i64 0, .int .i64 0] 39) := ⟨_, rfl⟩
                            have bt50 : Hid (Below (wt45).heap.size (wt45) wt50) := Lib.hid (by rw [hW]; exact bx1 _ _ _)
                            have t7_ : Hid (Own wt50 (wt45).heap.size 39 #[.int .i64 0, .int .i64 0, .int .i64 0]) := Lib.hid (by rw [hW]; exact Own.made _ _ _)
                            have t7_lo : Hid (W9.heap.size ≤ (wt45).heap.size) := Lib.hid B1.out.size
                            have ne_t7_t8 : (wt45).heap.size ≠ gb_t8 := fun e => by have := t8.out.in_; omega
                            replace B1 := Lib.hid (then_ B1.out bt50.out B1.out.size)
                            replace t8 := Lib.hid (t8.out.keep bt50.out)
                            rw [← hW]
                            obtain ⟨gb_t7, hg_t7⟩ : ∃ g, g = (wt45).heap.size := ⟨_, rfl⟩
                            rw [← hg_t7] at t7_ t7_lo ne_t7_t8 ⊢
                            clear hW hg_t7
                            have ne_t8_t7 := Ne.symm ne_t7_t8
                            have t7 := t7_
                            refine hK _ _ (SF.out _ B1.out) ?_
                            clear hK K
                            refine tree_one (i := 3) (by kernel_rfl) rfl ?_
                            · refine ⟨_, rfl, fun K hK => ?_⟩
                              go_wp2_with (go_at_call 16; refine (ENY.out _ (then_ BW9.out B1.out BW9.out.size)).mono ?_; rintro e wt51 ⟨rfl, bt51⟩; replace bt51 := Lib.hid bt51)
                              replace B1 := Lib.hid (then_ B1.out bt51.out B1.out.size)
                              replace t8 := Lib.hid (t8.out.keep bt51.out)
                              replace t7 := Lib.hid (t7.out.keep bt51.out)
                              refine hK _ _ (SF.out _ B1.out) ?_
                              clear hK K
                              refine tree_pure (i := 4) (v := ?_) rfl rfl (by kernel_rfl) (by kernel_rfl) (by kernel_rfl) rfl (fun W hS => ?_) (SF.out _ B1.out) ?_
                              rotate_left
                              · conv => lhs; simp [go_sem]
                                first | done | exact rfl
                              simp only [Act.put, List.getElem_toArray, List.getElem_cons_zero, List.getElem_cons_succ, List.setIfInBounds_toArray, List.set_cons_zero, List.set_cons_succ]
                              refine tree_pure (i := 5) (v := ?_) rfl rfl (by kernel_rfl) (by kernel_rfl) (by kernel_rfl) rfl (fun W hS => ?_) (SF.out _ B1.out) ?_
                              rotate_left
                              · conv => lhs; simp [go_sem]
                                first | done | exact rfl
                              simp only [Act.put, List.getElem_toArray, List.getElem_cons_zero, List.getElem_cons_succ, List.setIfInBounds_toArray, List.set_cons_zero, List.set_cons_succ]
                              refine tree_pure (i := 6) (v := ?_) rfl rfl (by kernel_rfl) (by kernel_rfl) (by kernel_rfl) rfl (fun W hS => ?_) (SF.out _ B1.out) ?_
                              rotate_left
                              · conv => lhs; simp [go_sem]
                                first | done | exact rfl
                              simp only [Act.put, List.getElem_toArray, List.getElem_cons_zero, List.getElem_cons_succ, List.setIfInBounds_toArray, List.set_cons_zero, List.set_cons_succ]
                              refine tree_pure (i := 7) (v := ?_) rfl rfl (by kernel_rfl) (by kernel_rfl) (by kernel_rfl) rfl (fun W hS => ?_) (SF.out _ B1.out) ?_
                              rotate_left
                              · conv => lhs; simp [go_sem]
                                first | done | exact rfl
                              simp only [Act.put, List.getElem_toArray, List.getElem_cons_zero, List.getElem_cons_succ, List.setIfInBounds_toArray, List.set_cons_zero, List.set_cons_succ]
                              refine tree_one (i := 10) (by kernel_rfl) rfl ?_
                              · refine ⟨_, rfl, fun K hK => ?_⟩
                                obtain ⟨fz1, fz2, fz3⟩ := t7.out.at_
                                go_wp2
                                clear fz1 fz2 fz3
                                have t7_f : Hid (Own (World.setCell (World.setCell (World.setCell wt51 ⟨gb_t7, 0, none⟩ (.int .i64 b1)) ⟨gb_t7, 1, none⟩ (.int .i64 b2)) ⟨gb_t7, 2, none⟩ (.int .i64 b3)) gb_t7 39 #[.int .i64 b1, .int .i64 b2, .int .i64 b3]) := Lib.hid ((((t7.out.put 0 _).put 1 _).put 2 _).as (by simp))
                                have t8_g : Hid (Own (World.setCell (World.setCell (World.setCell wt51 ⟨gb_t7, 0, none⟩ (.int .i64 b1)) ⟨gb_t7, 1, none⟩ (.int .i64 b2)) ⟨gb_t7, 2, none⟩ (.int .i64 b3)) gb_t8 39 #[.int .i64 0, .int .i64 0, .int .i64 0]) := Lib.hid (((t8.out.apart ne_t8_t7 _ _).apart ne_t8_t7 _ _).apart ne_t8_t7 _ _)
                                have BF_ : Hid (Below W9.heap.size W9 (World.setCell (World.setCell (World.setCell wt51 ⟨gb_t7, 0, none⟩ (.int .i64 b1)) ⟨gb_t7, 1, none⟩ (.int .i64 b2)) ⟨gb_t7, 2, none⟩ (.int .i64 b3))) := Lib.hid (Below.setCell (Below.setCell (Below.setCell B1.out (p := ⟨gb_t7, 0, none⟩) (t7_lo.out) _) (p := ⟨gb_t7, 1, none⟩) (t7_lo.out) _) (p := ⟨gb_t7, 2, none⟩) (t7_lo.out) _)
                                generalize hWF_ : (World.setCell (World.setCell (World.setCell wt51 ⟨gb_t7, 0, none⟩ (.int .i64 b1)) ⟨gb_t7, 1, none⟩ (.int .i64 b2)) ⟨gb_t7, 2, none⟩ (.int .i64 b3)) = wt52 at t7_f BF_ t8_g ⊢
                                clear hWF_
                                have BF := BF_
                                have t8_f := t8_g
                                refine hK _ _ (SF.out _ BF.out) ?_
                                clear hK K
                                refine tree_one (i := 11) (by kernel_rfl) rfl ?_
                                · refine ⟨_, rfl, fun K hK => ?_⟩
                                  obtain ⟨fz1, fz2, fz3⟩ := t8_f.out.at_
                                  go_wp2
                                  clear fz1 fz2 fz3
                                  have t8_f : Hid (Own (World.setCell (World.setCell (World.setCell wt52 ⟨gb_t8, 0, none⟩ (.int .i64 d1)) ⟨gb_t8, 1, none⟩ (.int .i64 d2)) ⟨gb_t8, 2, none⟩ (.int .i64 d3)) gb_t8 39 #[.int .i64 d1, .int .i64 d2, .int .i64 d3]) := Lib.hid ((((t8_f.out.put 0 _).put 1 _).put 2 _).as (by simp))
                                  have t7_g : Hid (Own (World.setCell (World.setCell (World.setCell wt52 ⟨gb_t8, 0, none⟩ (.int .i64 d1)) ⟨gb_t8, 1, none⟩ (.int .i64 d2)) ⟨gb_t8, 2, none⟩ (.int .i64 d3)) gb_t7 39 #[.int .i64 b1, .int .i64 b2, .int .i64 b3]) := Lib.hid (((t7_f.out.apart ne_t7_t8 _ _).apart ne_t7_t8 _ _).apart ne_t7_t8 _ _)
                                  have BF_ : Hid (Below W9.heap.size W9 (World.setCell (World.setCell (World.setCell wt52 ⟨gb_t8, 0, none⟩ (.int .i64 d1)) ⟨gb_t8, 1, none⟩ (.int .i64 d2)) ⟨gb_t8, 2, none⟩ (.int .i64 d3))) := Lib.hid (Below.setCell (Below.setCell (Below.setCell BF.out (p := ⟨gb_t8, 0, none⟩) (t8_lo.out) _) (p := ⟨gb_t8, 1, none⟩) (t8_lo.out) _) (p := ⟨gb_t8, 2, none⟩) (t8_lo.out) _)
                                  generalize hWF_ : (World.setCell (World.setCell (World.setCell wt52 ⟨gb_t8, 0, none⟩ (.int .i64 d1)) ⟨gb_t8, 1, none⟩ (.int .i64 d2)) ⟨gb_t8, 2, none⟩ (.int .i64 d3)) = wt53 at t8_f BF_ t7_g ⊢
                                  clear hWF_
                                  have BF := BF_
                                  have t7_f := t7_g
                                  refine hK _ _ (SF.out _ BF.out) ?_
                                  clear hK K
                                  refine tree_pure (i := 12) (v := ?_) rfl rfl (by kernel_rfl) (by kernel_rfl) (by kernel_rfl) rfl (fun W hS => ?_) (SF.out _ BF.out) ?_
                                  rotate_left
                                  · conv => lhs; simp [go_sem]
                                    first | done | exact rfl
                                  simp only [Act.put, List.getElem_toArray, List.getElem_cons_zero, List.getElem_cons_succ, List.setIfInBounds_toArray, List.set_cons_zero, List.set_cons_succ]
                                  refine tree_end (by kernel_rfl) ?_
                                  go_wp2_with fail
                                  go_meet
                                  exact ⟨_, _, rfl, rfl, rfl, t7_f, BF⟩
                        · refine ⟨_, rfl, fun K hK => ?_⟩
                          go_wp2
                          obtain ⟨wt54, hW⟩ : ∃ X, X = World.alloc wt44 (.cells #[.int .i64 0, .int .i64 0, .int .i64 0] 39) := ⟨_, rfl⟩
                          have bt54 : Hid (Below (wt44).heap.size (wt44) wt54) := Lib.hid (by rw [hW]; exact bx1 _ _ _)
                          have t7_ : Hid (Own wt54 (wt44).heap.size 39 #[.int .i64 0, .int .i64 0, .int .i64 0]) := Lib.hid (by rw [hW]; exact Own.made _ _ _)
                          have t7_lo : Hid (W9.heap.size ≤ (wt44).heap.size) := Lib.hid B1.out.size
                          have ne_t7_t8 : (wt44).heap.size ≠ gb_t8 := fun e => by have := t8.out.in_; omega
                          replace B1 := Lib.hid (then_ B1.out bt54.out B1.out.size)
                          replace t8 := Lib.hid (t8.out.keep bt54.out)
                          rw [← hW]
                          obtain ⟨gb_t7, hg_t7⟩ : ∃ g, g = (wt44).heap.size := ⟨_, rfl⟩
                          rw [← hg_t7] at t7_ t7_lo ne_t7_t8 ⊢
                          clear hW hg_t7
                          have ne_t8_t7 := Ne.symm ne_t7_t8
                          have t7 := t7_
                          refine hK _ _ (SF.out _ B1.out) ?_
                          clear hK K
                          refine tree_one (i := 1) (by kernel_rfl) rfl ?_
                          · refine ⟨_, rfl, fun K hK => ?_⟩
                            go_wp2_with (go_at_call 11; refine (PL.out _ (then_ BW9.out B1.out BW9.out.size)).mono ?_; rintro e wt55 ⟨rfl, bt55⟩; replace bt55 := Lib.hid bt55)
                            replace B1 := Lib.hid (then_ B1.out bt55.out B1.out.size)
                            replace t8 := Lib.hid (t8.out.keep bt55.out)
                            replace t7 := Lib.hid (t7.out.keep bt55.out)
                            refine hK _ _ (SF.out _ B1.out) ?_
                            clear hK K
                            refine tree_one (i := 3) (by kernel_rfl) rfl ?_
                            · refine ⟨_, rfl, fun K hK => ?_⟩
                              go_wp2_with (go_at_call 16; refine (ENY.out _ (then_ BW9.out B1.out BW9.out.size)).mono ?_; rintro e wt56 ⟨rfl, bt56⟩; replace bt56 := Lib.hid bt56)
                              replace B1 := Lib.hid (then_ B1.out bt56.out B1.out.size)
                              replace t8 := Lib.hid (t8.out.keep bt56.out)
                              replace t7 := Lib.hid (t7.out.keep bt56.out)
                              refine hK _ _ (SF.out _ B1.out) ?_
                              clear hK K
                              refine tree_pure (i := 4) (v := ?_) rfl rfl (by kernel_rfl) (by kernel_rfl) (by kernel_rfl) rfl (fun W hS => ?_) (SF.out _ B1.out) ?_
                              rotate_left
                              · conv => lhs; simp [go_sem]
                                first | done | exact rfl
                              simp only [Act.put, List.getElem_toArray, List.getElem_cons_zero, List.getElem_cons_succ, List.setIfInBounds_toArray, List.set_cons_zero, List.set_cons_succ]
                              refine tree_pure (i := 5) (v := ?_) rfl rfl (by kernel_rfl) (by kernel_rfl) (by kernel_rfl) rfl (fun W hS => ?_) (SF.out _ B1.out) ?_
                              rotate_left
                              · conv => lhs; simp [go_sem]
                                first | done | exact rfl
                              simp only [Act.put, List.getElem_toArray, List.getElem_cons_zero, List.getElem_cons_succ, List.setIfInBounds_toArray, List.set_cons_zero, List.set_cons_succ]
                              refine tree_pure (i := 6) (v := ?_) rfl rfl (by kernel_rfl) (by kernel_rfl) (by kernel_rfl) rfl (fun W hS => ?_) (SF.out _ B1.out) ?_
                              rotate_left
                              · conv => lhs; simp [go_sem]
                                first | done | exact rfl
                              simp only [Act.put, List.getElem_toArray, List.getElem_cons_zero, List.getElem_cons_succ, List.setIfInBounds_toArray, List.set_cons_zero, List.set_cons_succ]
                              refine tree_pure (i := 7) (v := ?_) rfl rfl (by kernel_rfl) (by kernel_rfl) (by kernel_rfl) rfl (fun W hS => ?_) (SF.out _ B1.out) ?_
                              rotate_left
                              · conv => lhs; simp [go_sem]
                                first | done | exact rfl
                              simp only [Act.put, List.getElem_toArray, List.getElem_cons_zero, List.getElem_cons_succ, List.setIfInBounds_toArray, List.set_cons_zero, List.set_cons_succ]
                              refine tree_one (i := 10) (by kernel_rfl) rfl ?_
                              · refine ⟨_, rfl, fun K hK => ?_⟩
                                obtain ⟨fz1, fz2, fz3⟩ := t7.out.at_
                                go_wp2
                                clear fz1 fz2 fz3
                                have t7_f : Hid (Own (World.setCell (World.setCell (World.setCell wt56 ⟨gb_t7, 0, none⟩ (.int .i64 b1)) ⟨gb_t7, 1, none⟩ (.int .i64 b2)) ⟨gb_t7, 2, none⟩ (.int .i64 b3)) gb_t7 39 #[.int .i64 b1, .int .i64 b2, .int .i64 b3]) := Lib.hid ((((t7.out.put 0 _).put 1 _).put 2 _).as (by simp))
                                have t8_g : Hid (Own (World.setCell (World.setCell (World.setCell wt56 ⟨gb_t7, 0, none⟩ (.int .i64 b1)) ⟨gb_t7, 1, none⟩ (.int .i64 b2)) ⟨gb_t7, 2, none⟩ (.int .i64 b3)) gb_t8 39 #[.int .i64 0, .int .i64 0, .int .i64 0]) := Lib.hid (((t8.out.apart ne_t8_t7 _ _).apart ne_t8_t7 _ _).apart ne_t8_t7 _ _)
                                have BF_ : Hid (Below W9.heap.size W9 (World.setCell (World.setCell (World.setCell wt56 ⟨gb_t7, 0, none⟩ (.int .i64 b1)) ⟨gb_t7, 1, none⟩ (.int .i64 b2)) ⟨gb_t7, 2, none⟩ (.int .i64 b3))) := Lib.hid (Below.setCell (Below.setCell (Below.setCell B1.out (p := ⟨gb_t7, 0, none⟩) (t7_lo.out) _) (p := ⟨gb_t7, 1, none⟩) (t7_lo.out) _) (p := ⟨gb_t7, 2, none⟩) (t7_lo.out) _)
                                generalize hWF_ : (World.setCell (World.setCell (World.setCell wt56 ⟨gb_t7, 0, none⟩ (.int .i64 b1)) ⟨gb_t7, 1, none⟩ (.int .i64 b2)) ⟨gb_t7, 2, none⟩ (.int .i64 b3)) = wt57 at t7_f BF_ t8_g ⊢
                                clear hWF_
                                have BF := BF_
                                have t8_f := t8_g
                                refine hK _ _ (SF.out _ BF.out) ?_
                                clear hK K
                                refine tree_one (i := 11) (by kernel_rfl) rfl ?_
                                · refine ⟨_, rfl, fun K hK => ?_⟩
                                  obtain ⟨fz1, fz2, fz3⟩ := t8_f.out.at_
                                  go_wp2
                                  clear fz1 fz2 fz3
                                  have t8_f : Hid (Own (World.setCell (World.setCell (World.setCell wt57 ⟨gb_t8, 0, none⟩ (.int .i64 d1)) ⟨gb_t8, 1, none⟩ (.int .i64 d2)) ⟨gb_t8, 2, none⟩ (.int .i64 d3)) gb_t8 39 #[.int .i64 d1, .int .i64 d2, .int .i64 d3]) := Lib.hid ((((t8_f.out.put 0 _).put 1 _).put 2 _).as (by simp))
                                  have t7_g : Hid (Own (World.setCell (World.setCell (World.setCell wt57 ⟨gb_t8, 0, none⟩ (.int .i64 d1)) ⟨gb_t8, 1, none⟩ (.int .i64 d2)) ⟨gb_t8, 2, none⟩ (.int .i64 d3)) gb_t7 39 #[.int .i64 b1, .int .i64 b2, .int .i64 b3]) := Lib.hid (((t7_f.out.apart ne_t7_t8 _ _).apart ne_t7_t8 _ _).apart ne_t7_t8 _ _)
                                  have BF_ : Hid (Below W9.heap.size W9 (World.setCell (World.setCell (World.setCell wt57 ⟨gb_t8, 0, none⟩ (.int .i64 d1)) ⟨gb_t8, 1, none⟩ (.int .i64 d2)) ⟨gb_t8, 2, none⟩ (.int .i64 d3))) := Lib.hid (Below.setCell (Below.setCell (Below.setCell BF.out (p := ⟨gb_t8, 0, none⟩) (t8_lo.out) _) (p := ⟨gb_t8, 1, none⟩) (t8_lo.out) _) (p := ⟨gb_t8, 2, none⟩) (t8_lo.out) _)
                                  generalize hWF_ : (World.setCell (World.setCell (World.setCell wt57 ⟨gb_t8, 0, none⟩ (.int .i64 d1)) ⟨gb_t8, 1, none⟩ (.int .i64 d2)) ⟨gb_t8, 2, none⟩ (.int .i64 d3)) = wt58 at t8_f BF_ t7_g ⊢
                                  clear hWF_
                                  have BF := BF_
                                  have t7_f := t7_g
                                  refine hK _ _ (SF.out _ BF.out) ?_
                                  clear hK K
                                  refine tree_pure (i := 12) (v := ?_) rfl rfl (by kernel_rfl) (by kernel_rfl) (by kernel_rfl) rfl (fun W hS => ?_) (SF.out _ BF.out) ?_
                                  rotate_left
                                  · conv => lhs; simp [go_sem]
                                    first | done | exact rfl
                                  simp only [Act.put, List.getElem_toArray, List.getElem_cons_zero, List.getElem_cons_succ, List.setIfInBounds_toArray, List.set_cons_zero, List.set_cons_succ]
                                  refine tree_end (by kernel_rfl) ?_
                                  go_wp2_with fail
                                  go_meet
                                  exact ⟨_, _, rfl, rfl, rfl, t7_f, BF⟩
                  case rest =>
                    obtain ⟨g13, g14, rfl, rfl, rfl, F13, BF10⟩ := hcut
                    have BA := Lib.hid (then_ B9.out BF10.out B9.out.size)
                    have BQA := Lib.hid (then_ BQ9.out BF10.out BQ9.out.size)
                    have QA := Lib.hid (Q9.out.keep BF10.out)
                    have FA := Lib.hid (F9.out.keep BF10.out)
                    have FB := Lib.hid (F11.out.keep BF10.out)
                    clear SF B1 P9 Q9 F9 F11 BF10 ENY B9 BQ9 BW9
                    obtain ⟨WA, hWA⟩ : ∃ WA, WA = wc := ⟨_, rfl⟩
                    rw [← hWA] at F13 BA BQA QA FA FB
                    go_upto_region 15 with fail
                    rw [← hWA]
                    clear hWA
                    have CMA : Hid (∀ W, Below WA.heap.size WA W → W.cell? ⟨gr, m * 2, none⟩ = some (.int .i64 ne) ∧ W.cell? ⟨gr, m * 2 + 1, none⟩ = some (.bool nb) ∧ W.cell? ⟨gr, 0, none⟩ = some (.int .i64 h0e) ∧ W.cell? ⟨gr, 1, none⟩ = some (.bool h0b) ∧ W.cell? ⟨ga, k, none⟩ = some (.slice (some ⟨gr, 0, none⟩) l cr)) := Lib.hid fun W hW => CM.out W (then_ BA.out hW BA.out.size)
                    have HMA := Lib.hid (fun W (hW : Below WA.heap.size WA W) => HMM.out W (then_ BQA.out hW BQA.out.size))
                    have EH : ∀ W, (Op.equalIn 10000 42 (.agg #[.int .i64 ne, .bool nb]) (.agg #[.int .i64 ne, .bool nb])).run Try.prog W = .ok true W := fun W => by
                      have := eq_Half ne ne nb nb W
                      rwa [decide_eq_true ⟨rfl, rfl⟩] at this
                    have EV := eq_Vx b1 b2 b3
                    have hq1 : IntKind.i64.wrap ((q : Int) + 1) = (q : Int) + 1 := by have := h0l.out; rw [IntKind.wrap_i64]; omega
                    have hrem : Int.tmod ((q : Int) + 1) (l : Int) = (m : Int) := by rw [show ((q : Int) + 1) = ((q + 1 : Nat) : Int) from rfl, MD.out, ← Int.ofNat_tmod]
                    have hl1 : 0 < l := hl0
                    have hl2 : ((l : Int) == 0) = false := by simp; omega
                    have hl3 : ¬ l = 0 := by omega
                    have Z0 : Hid (Below WA.heap.size WA WA.drew) := Lib.hid (Below.refl _ _).drew
                    clear CM CA HMM
                    go_cut [123] (fun s wx => s = .bool false ∧ Hid (Below WA.heap.size WA wx))
                    case first =>
                      rcases Nat.eq_zero_or_pos q with h0 | h0
                      · have hg0 : decide ((0 : Int) < (q : Int)) = false := by simp; omega
                        have hgN : ¬ 0 < q := by omega
                        clear h0
                        go_upto_region 15 with fail
                        refine wp_region_seq (fun W => Below WA.heap.size WA W) (0 :: 1 :: 3 :: 4 :: 5 :: 6 :: 7 :: 8 :: 9 :: 10 :: 11 :: 12 :: 13 :: 14 :: 15 :: 16 :: 17 :: 18 :: 19 :: 20 :: 21 :: 22 :: 23 :: 24 :: 25 :: 26 :: 27 :: 28 :: 29 :: 30 :: 31 :: 32 :: 33 :: 34 :: 35 :: 36 :: 37 :: 38 :: 39 :: 40 :: 41 :: 42 :: 43 :: 44 :: 45 :: 46 :: 47 :: 48 :: 49 :: 50 :: 51 :: []) (1 :: 16 :: 20 :: 26 :: 30 :: 34 :: 35 :: []) (0 :: 1 :: 2 :: 3 :: 4 :: 5 :: 6 :: 7 :: 8 :: 9 :: 10 :: 11 :: 12 :: 13 :: 14 :: 15 :: 16 :: 17 :: 18 :: 19 :: 20 :: 21 :: 22 :: 23 :: 24 :: 25 :: 26 :: 27 :: 28 :: 29 :: 30 :: 31 :: 32 :: 33 :: 34 :: 35 :: 36 :: 37 :: 38 :: 39 :: 40 :: 41 :: 42 :: 43 :: 44 :: 45 :: 46 :: 47 :: 48 :: 49 :: 50 :: 51 :: []) (by kernel_rfl) (by kernel_rfl) rfl (by kernel_rfl) rfl (Z0.out) (by simp only [picked, List.filterMap_cons, List.filterMap_nil, List.getElem?_cons_zero, List.getElem?_cons_succ, Option.map_some]; exact rfl) ?_
                        iterate 2
                          refine seq_want (v := ?_) rfl rfl (fun W hS => ?_) ?_
                          rotate_left
                          · first
                              | (conv => lhs; simp [go_sem, hki, hqi, hmi, EH, EV, hq1, hrem, hl1, hl2, hl3, hg0, hgN]
                                 first | done | exact rfl)
                              | (have hS := hS rfl
                                 obtain ⟨v1, v2, v3, v4, v5⟩ := CMA.out W hS
                                 obtain ⟨v6, v7⟩ := half_at (QA.out.keep hS)
                                 obtain ⟨v8, v9⟩ := half_at (FA.out.keep hS)
                                 obtain ⟨va, vb, vc⟩ := three_at (FB.out.keep hS)
                                 obtain ⟨vd, ve, vf⟩ := three_at (F13.out.keep hS)
                                 conv => lhs; simp [go_sem, *, hki, hqi, hmi, EH, EV, hq1, hrem, hl1, hl2, hl3, hg0, hgN]
                                 first | done | exact rfl)
                          simp only [Act.put, List.setIfInBounds_toArray, List.set_cons_zero, List.set_cons_succ]
                        refine seq_on rfl rfl fun K hK => ?_
                        go_wp2_with (go_at_call 17; refine (HMA.out _ Z0.out).mono ?_; rintro e w2 ⟨rfl, b2⟩)
                        have Z2 := Lib.hid (then_ Z0.out b2 Z0.out.size)
                        clear b2
                        refine hK _ _ (Z2.out) ?_
                        clear hK K
                        iterate 39
                          refine seq_want (v := ?_) rfl rfl (fun W hS => ?_) ?_
                          rotate_left
                          · first
                              | (conv => lhs; simp [go_sem, hki, hqi, hmi, EH, EV, hq1, hrem, hl1, hl2, hl3, hg0, hgN]
                                 first | done | exact rfl)
                              | (have hS := hS rfl
                                 obtain ⟨v1, v2, v3, v4, v5⟩ := CMA.out W hS
                                 obtain ⟨v6, v7⟩ := half_at (QA.out.keep hS)
                                 obtain ⟨v8, v9⟩ := half_at (FA.out.keep hS)
                                 obtain ⟨va, vb, vc⟩ := three_at (FB.out.keep hS)
                                 obtain ⟨vd, ve, vf⟩ := three_at (F13.out.keep hS)
                                 conv => lhs; simp [go_sem, *, hki, hqi, hmi, EH, EV, hq1, hrem, hl1, hl2, hl3, hg0, hgN]
                                 first | done | exact rfl)
                          simp only [Act.put, List.setIfInBounds_toArray, List.set_cons_zero, List.set_cons_succ]
                        refine seq_skip rfl rfl ?_
                        simp only [Act.put, List.setIfInBounds_toArray, List.set_cons_zero, List.set_cons_succ]
                        refine seq_skip rfl rfl ?_
                        simp only [Act.put, List.setIfInBounds_toArray, List.set_cons_zero, List.set_cons_succ]
                        refine seq_skip rfl rfl ?_
                        simp only [Act.put, List.setIfInBounds_toArray, List.set_cons_zero, List.set_cons_succ]
                        refine seq_skip rfl rfl ?_
                        simp only [Act.put, List.setIfInBounds_toArray, List.set_cons_zero, List.set_cons_succ]
                        refine seq_skip rfl rfl ?_
                        simp only [Act.put, List.setIfInBounds_toArray, List.set_cons_zero, List.set_cons_succ]
                        refine seq_skip rfl rfl ?_
                        simp only [Act.put, List.setIfInBounds_toArray, List.set_cons_zero, List.set_cons_succ]
                        refine seq_skip rfl rfl ?_
                        simp only [Act.put, List.setIfInBounds_toArray, List.set_cons_zero, List.set_cons_succ]
                        refine seq_skip rfl rfl ?_
                        simp only [Act.put, List.setIfInBounds_toArray, List.set_cons_zero, List.set_cons_succ]
                        iterate 2
                          refine seq_want (v := ?_) rfl rfl (fun W hS => ?_) ?_
                          rotate_left
                          · first
                              | (conv => lhs; simp [go_sem, hki, hqi, hmi, EH, EV, hq1, hrem, hl1, hl2, hl3, hg0, hgN]
                                 first | done | exact rfl)
                              | (have hS := hS rfl
                                 obtain ⟨v1, v2, v3, v4, v5⟩ := CMA.out W hS
                                 obtain ⟨v6, v7⟩ := half_at (QA.out.keep hS)
                                 obtain ⟨v8, v9⟩ := half_at (FA.out.keep hS)
                                 obtain ⟨va, vb, vc⟩ := three_at (FB.out.keep hS)
                                 obtain ⟨vd, ve, vf⟩ := three_at (F13.out.keep hS)
                                 conv => lhs; simp [go_sem, *, hki, hqi, hmi, EH, EV, hq1, hrem, hl1, hl2, hl3, hg0, hgN]
                                 first | done | exact rfl)
                          simp only [Act.put, List.setIfInBounds_toArray, List.set_cons_zero, List.set_cons_succ]
                        refine seq_end ?_
                        go_wp2_with fail
                        go_meet
                        exact ⟨rfl, Z2⟩
                      · have hg1 : (0 : Int) < (q : Int) := by omega
                        go_upto_region 15 with fail
                        refine wp_region_seq (fun W => Below WA.heap.size WA W) (0 :: 1 :: 3 :: 4 :: 5 :: 6 :: 7 :: 8 :: 9 :: 10 :: 11 :: 12 :: 13 :: 14 :: 15 :: 16 :: 17 :: 18 :: 19 :: 20 :: 21 :: 22 :: 23 :: 24 :: 25 :: 26 :: 27 :: 28 :: 29 :: 30 :: 31 :: 32 :: 33 :: 34 :: 35 :: 36 :: 37 :: 38 :: 39 :: 40 :: 41 :: 42 :: 43 :: 44 :: 45 :: 46 :: 47 :: 48 :: 50 :: 51 :: []) (1 :: 16 :: 20 :: 26 :: 30 :: 34 :: 35 :: 42 :: 46 :: 48 :: []) (0 :: 1 :: 2 :: 3 :: 4 :: 5 :: 6 :: 7 :: 8 :: 9 :: 10 :: 11 :: 12 :: 13 :: 14 :: 15 :: 16 :: 17 :: 18 :: 19 :: 20 :: 21 :: 22 :: 23 :: 24 :: 25 :: 26 :: 27 :: 28 :: 29 :: 30 :: 31 :: 32 :: 33 :: 34 :: 35 :: 36 :: 37 :: 38 :: 39 :: 40 :: 41 :: 42 :: 43 :: 44 :: 45 :: 46 :: 47 :: 48 :: 49 :: 50 :: 51 :: []) (by kernel_rfl) (by kernel_rfl) rfl (by kernel_rfl) rfl (Z0.out) (by simp only [picked, List.filterMap_cons, List.filterMap_nil, List.getElem?_cons_zero, List.getElem?_cons_succ, Option.map_some]; exact rfl) ?_
                        iterate 2
                          refine seq_want (v := ?_) rfl rfl (fun W hS => ?_) ?_
                          rotate_left
                          · first
                              | (conv => lhs; simp [go_sem, hki, hqi, hmi, EH, EV, hq1, hrem, hl1, hl2, hl3, hg1, h0]
                                 first | done | exact rfl)
                              | (have hS := hS rfl
                                 obtain ⟨v1, v2, v3, v4, v5⟩ := CMA.out W hS
                                 obtain ⟨v6, v7⟩ := half_at (QA.out.keep hS)
                                 obtain ⟨v8, v9⟩ := half_at (FA.out.keep hS)
                                 obtain ⟨va, vb, vc⟩ := three_at (FB.out.keep hS)
                                 obtain ⟨vd, ve, vf⟩ := three_at (F13.out.keep hS)
                                 conv => lhs; simp [go_sem, *, hki, hqi, hmi, EH, EV, hq1, hrem, hl1, hl2, hl3, hg1, h0]
                                 first | done | exact rfl)
                          simp only [Act.put, List.setIfInBounds_toArray, List.set_cons_zero, List.set_cons_succ]
                        refine seq_on rfl rfl fun K hK => ?_
                        go_wp2_with (go_at_call 17; refine (HMA.out _ Z0.out).mono ?_; rintro e w2 ⟨rfl, b2⟩)
                        have Z2 := Lib.hid (then_ Z0.out b2 Z0.out.size)
                        clear b2
                        refine hK _ _ (Z2.out) ?_
                        clear hK K
                        iterate 46
                          refine seq_want (v := ?_) rfl rfl (fun W hS => ?_) ?_
                          rotate_left
                          · first
                              | (conv => lhs; simp [go_sem, hki, hqi, hmi, EH, EV, hq1, hrem, hl1, hl2, hl3, hg1, h0]
                                 first | done | exact rfl)
                              | (have hS := hS rfl
                                 obtain ⟨v1, v2, v3, v4, v5⟩ := CMA.out W hS
                                 obtain ⟨v6, v7⟩ := half_at (QA.out.keep hS)
                                 obtain ⟨v8, v9⟩ := half_at (FA.out.keep hS)
                                 obtain ⟨va, vb, vc⟩ := three_at (FB.out.keep hS)
                                 obtain ⟨vd, ve, vf⟩ := three_at (F13.out.keep hS)
                                 conv => lhs; simp [go_sem, *, hki, hqi, hmi, EH, EV, hq1, hrem, hl1, hl2, hl3, hg1, h0]
                                 first | done | exact rfl)
                          simp only [Act.put, List.setIfInBounds_toArray, List.set_cons_zero, List.set_cons_succ]
                        refine seq_on rfl rfl fun K hK => ?_
                        go_wp2_with (go_at_call 18; refine (LWH.out _).mono ?_; rintro e w3 ⟨rfl, b3⟩)
                        have Z3 := Lib.hid (then_ Z2.out b3 Z2.out.size)
                        clear b3
                        refine hK _ _ (Z3.out) ?_
                        clear hK K
                        iterate 2
                          refine seq_want (v := ?_) rfl rfl (fun W hS => ?_) ?_
                          rotate_left
                          · first
                              | (conv => lhs; simp [go_sem, hki, hqi, hmi, EH, EV, hq1, hrem, hl1, hl2, hl3, hg1, h0]
                                 first | done | exact rfl)
                              | (have hS := hS rfl
                                 obtain ⟨v1, v2, v3, v4, v5⟩ := CMA.out W hS
                                 obtain ⟨v6, v7⟩ := half_at (QA.out.keep hS)
                                 obtain ⟨v8, v9⟩ := half_at (FA.out.keep hS)
                                 obtain ⟨va, vb, vc⟩ := three_at (FB.out.keep hS)
                                 obtain ⟨vd, ve, vf⟩ := three_at (F13.out.keep hS)
                                 conv => lhs; simp [go_sem, *, hki, hqi, hmi, EH, EV, hq1, hrem, hl1, hl2, hl3, hg1, h0]
                                 first | done | exact rfl)
                          simp only [Act.put, List.setIfInBounds_toArray, List.set_cons_zero, List.set_cons_succ]
                        refine seq_end ?_
                        go_wp2_with fail
                        go_meet
                        exact ⟨rfl, Z3⟩
                    case rest =>
                      obtain ⟨rfl, BFB⟩ := hcut
                      have BC := Lib.hid (then_ BQA.out BFB.out BQA.out.size)
                      have BD := Lib.hid (then_ BA.out BFB.out BA.out.size)
                      have HMC := Lib.hid (HM9.out _ BC.out)
                      have QC := Lib.hid (QA.out.keep BFB.out)
                      obtain ⟨v1, v2⟩ := half_at QC.out
                      clear CMA HMA EH EV hq1 hrem hl1 hl2 hl3 Z0 QA FA FB F13 BFB BA BQA HM9 LWH
                      obtain ⟨i0, hi0, hz0, hz1, hz2⟩ := info_of info_Half
                      have BX : Hid (Below wc.heap.size wc (wc.alloc (.cells #[.int .i64 he, .bool hb] 42))) := Lib.hid (bx1 _ _ _)
                      have HMX := Lib.hid (HMC.out.below BX.out)
                      have BDX := Lib.hid (then_ BD.out BX.out BD.out.size)
                      have LMB : lm2 + 1 ≤ 200 := by have := LIN.out; rw [← HLM.out] at this; omega
                      go_upto_region 10 with (at_builtin; refine wpList_append_own_at _ rfl _ _ 40 rfl w4.heap.size 42 i0 (.agg #[.int .i64 0, .bool false]) 2 16 Try.underlying40 hi0 hz0 hz1 hz2 rfl (by decide) (.slice am lm2 cm) lm2 (hC (M0 ++ r.take q)) rfl (by have := HMX.out; unfold HOwn at this; rw [← HLM.out] at this; exact this) ⟨wc.heap.size, 0, none⟩ 1 1 [.int .i64 he, .bool hb] rfl rfl (fun j u hu => new_two wc _ _ _ j hu) (by intro u hu; simp at hu; rcases hu with rfl | rfl <;> rfl) (by unfold maxLen; omega) (by omega) (by have := BX.out.size; have := BD.out.size; omega) ?_; intro v9 w9 hown hgrow hnil hloc; obtain ⟨ya, yc, rfl⟩ := row_shape hown; have HO9 := Lib.hid hown; have HG9 := Lib.hid hgrow; clear hown hgrow hnil hloc)
                      have HN9 : Hid (HOwn w9 w4.heap.size (.slice ya (lm2 + 1) yc) (M0 ++ r.take (q + 1))) := Lib.hid (by
                        have := HO9.out
                        unfold HOwn
                        rw [TS.out, ← List.append_assoc, hC_app, hC_one, List.length_append, ← HLM.out]
                        exact this)
                      have LM9 : Hid (lm2 + 1 = (M0 ++ r.take (q + 1)).length) := Lib.hid (by rw [TS.out, ← List.append_assoc, List.length_append, ← HLM.out]; rfl)
                      have B99 := Lib.hid (BDX.out.grown HG9.out BDX.out.size fun g k => (HMX.out.own k).1)
                      clear HO9 HG9 HMX HMC QC v1 v2 BX BDX BD BC
                      go_wp2
                      go_roundw
                      case rel => exact ⟨q + 1, lm2 + 1, by omega, by go_num, Lib.hid ⟨ya, yc, rfl⟩, LM9, HN9, B99⟩
                      case measure => simp [intOf] <;> omega
            · obtain rfl : q = l := by omega
              obtain ⟨am, cm, hsh⟩ := HSM.out
              subst hsh
              have LM9 : Hid (lm2 = (flat (R.take (k + 1))).length) := Lib.hid (by rw [NXT.out, HLM.out, List.take_of_length_le (by rw [HL.out]; exact Nat.le_refl _)])
              have HM9 : Hid (HOwn wr w4.heap.size (.slice am lm2 cm) (flat (R.take (k + 1)))) := Lib.hid (by
                have := HM.out
                rwa [List.take_of_length_le (by rw [HL.out]; exact Nat.le_refl _), ← NXT.out] at this)
              have CZ : Hid (∀ W, Below w4.heap.size w4 W → W.cell? ⟨gr, 0, none⟩ = some (.int .i64 (hd r).1) ∧ W.cell? ⟨gr, 1, none⟩ = some (.bool (hd r).2) ∧ W.cell? ⟨ga, k, none⟩ = some (.slice (some ⟨gr, 0, none⟩) q cr)) := Lib.hid fun W hW => by
                obtain ⟨d1, d2⟩ := CA.out W hW
                obtain ⟨e3, e4⟩ := hOwn_zero d2 RK.out.ne
                exact ⟨e3, e4, d1⟩
              have hl1 : 0 < q := hl0
              clear CA HM HLM HSM o1 NDK LTK DK
              rcases Nat.eq_zero_or_pos k with h0 | h0
              · subst h0
                go_upto_region 18 with fail
                refine wp_region_seq (fun W => Below wr.heap.size wr W) (0 :: 1 :: 2 :: 3 :: 4 :: 5 :: 6 :: 7 :: 8 :: 9 :: 10 :: 11 :: 12 :: 13 :: 14 :: 15 :: 16 :: 17 :: 18 :: []) ([]) (0 :: 1 :: 2 :: 3 :: 4 :: 5 :: 6 :: 7 :: 8 :: 9 :: 10 :: 11 :: 12 :: 13 :: 14 :: 15 :: 16 :: 17 :: 18 :: []) (by kernel_rfl) (by kernel_rfl) rfl (by kernel_rfl) rfl ((Below.refl _ _).drew) (by simp only [picked, List.filterMap_cons, List.filterMap_nil, List.getElem?_cons_zero, List.getElem?_cons_succ, Option.map_some]; exact rfl) ?_
                iterate 3
                  refine seq_want (v := ?_) rfl rfl (fun W hS => ?_) ?_
                  rotate_left
                  · first
                      | (conv => lhs; simp [go_sem, hki]
                         first | done | exact rfl)
                      | (have hS := hS rfl
                         skip
                         conv => lhs; simp [go_sem, *, hki]
                         first | done | exact rfl)
                  simp only [Act.put, List.setIfInBounds_toArray, List.set_cons_zero, List.set_cons_succ]
                refine seq_skip rfl rfl ?_
                simp only [Act.put, List.setIfInBounds_toArray, List.set_cons_zero, List.set_cons_succ]
                refine seq_skip rfl rfl ?_
                simp only [Act.put, List.setIfInBounds_toArray, List.set_cons_zero, List.set_cons_succ]
                refine seq_skip rfl rfl ?_
                simp only [Act.put, List.setIfInBounds_toArray, List.set_cons_zero, List.set_cons_succ]
                refine seq_skip rfl rfl ?_
                simp only [Act.put, List.setIfInBounds_toArray, List.set_cons_zero, List.set_cons_succ]
                refine seq_skip rfl rfl ?_
                simp only [Act.put, List.setIfInBounds_toArray, List.set_cons_zero, List.set_cons_succ]
                refine seq_skip rfl rfl ?_
                simp only [Act.put, List.setIfInBounds_toArray, List.set_cons_zero, List.set_cons_succ]
                refine seq_skip rfl rfl ?_
                simp only [Act.put, List.setIfInBounds_toArray, List.set_cons_zero, List.set_cons_succ]
                refine seq_skip rfl rfl ?_
                simp only [Act.put, List.setIfInBounds_toArray, List.set_cons_zero, List.set_cons_succ]
                refine seq_skip rfl rfl ?_
                simp only [Act.put, List.setIfInBounds_toArray, List.set_cons_zero, List.set_cons_succ]
                refine seq_skip rfl rfl ?_
                simp only [Act.put, List.setIfInBounds_toArray, List.set_cons_zero, List.set_cons_succ]
                refine seq_skip rfl rfl ?_
                simp only [Act.put, List.setIfInBounds_toArray, List.set_cons_zero, List.set_cons_succ]
                refine seq_skip rfl rfl ?_
                simp only [Act.put, List.setIfInBounds_toArray, List.set_cons_zero, List.set_cons_succ]
                refine seq_skip rfl rfl ?_
                simp only [Act.put, List.setIfInBounds_toArray, List.set_cons_zero, List.set_cons_succ]
                refine seq_skip rfl rfl ?_
                simp only [Act.put, List.setIfInBounds_toArray, List.set_cons_zero, List.set_cons_succ]
                refine seq_skip rfl rfl ?_
                simp only [Act.put, List.setIfInBounds_toArray, List.set_cons_zero, List.set_cons_succ]
                iterate 1
                  refine seq_want (v := ?_) rfl rfl (fun W hS => ?_) ?_
                  rotate_left
                  · first
                      | (conv => lhs; simp [go_sem, hki]
                         first | done | exact rfl)
                      | (have hS := hS rfl
                         skip
                         conv => lhs; simp [go_sem, *, hki]
                         first | done | exact rfl)
                  simp only [Act.put, List.setIfInBounds_toArray, List.set_cons_zero, List.set_cons_succ]
                refine seq_end ?_
                have B9 := Lib.hid (then_ HW.out (Below.refl _ _).drew HW.out.size)
                have HM10 := Lib.hid (HM9.out.below (Below.refl _ _).drew)
                go_wp2
                go_roundw
                case rel => exact ⟨0 + 1, lm2, by omega, by go_num, Lib.hid ⟨am, cm, rfl⟩, LM9, HM10, B9⟩
                case measure => simp [intOf] <;> omega
              · have hk1 : k - 1 < LA.length := by rw [NA.out]; omega
                have hk2 : k - 1 < R.length := by rw [← HN.out]; omega
                obtain ⟨gp, ep, hp, -, -⟩ := (FT.out _ HW.out).1.cell hk1
                obtain rfl : ga = gp := by injection ep with e; injection e
                have CP : Hid (∀ W, Below w4.heap.size w4 W → W.cell? ⟨ga, k - 1, none⟩ = some (LA[k - 1]'hk1).1 ∧ HOwn W w3.heap.size (LA[k - 1]'hk1).1 (LA[k - 1]'hk1).2) := Lib.hid fun W hW => by
                  obtain ⟨ga', ea', ha', c1', o1'⟩ := (FT.out _ hW).1.cell hk1
                  obtain rfl : ga = ga' := by injection ea' with e; injection e
                  exact ⟨c1', o1'⟩
                have EP := Lib.hid (pl_at EA.out hk1 hk2)
                have PV := Lib.hid (PRV.out h0)
                have RP := Lib.hid (R1.out _ (List.getElem_mem hk2))
                obtain ⟨xp, hxp⟩ : ∃ xp, xp = LA[k - 1]'hk1 := ⟨_, rfl⟩
                rw [← hxp] at CP EP
                clear hxp
                obtain ⟨vp, rp⟩ := xp
                simp only at CP EP
                rw [← EP.out] at PV RP
                obtain ⟨gpr, cpr, hsl, -, -, -, -⟩ := hOwn_cells (CP.out _ HW.out).2 RP.out.ne
                subst hsl
                obtain ⟨lp, hlp⟩ : ∃ lp, lp = rp.length := ⟨_, rfl⟩
                have hlp0 : 0 < lp := by rw [hlp]; exact RP.out.ne
                rw [← hlp] at CP
                have CQ : Hid (∀ W, Below w4.heap.size w4 W → W.cell? ⟨gpr, 0, none⟩ = some (.int .i64 (hd rp).1) ∧ W.cell? ⟨gpr, 1, none⟩ = some (.bool (hd rp).2) ∧ W.cell? ⟨ga, k - 1, none⟩ = some (.slice (some ⟨gpr, 0, none⟩) lp cpr)) := Lib.hid fun W hW => by
                  obtain ⟨d1, d2⟩ := CP.out W hW
                  obtain ⟨e3, e4⟩ := hOwn_zero d2 RP.out.ne
                  exact ⟨e3, e4, d1⟩
                have LWH := Lib.hid (fun W => less_any (hd rp) (hd r) W)
                rw [PV.out] at LWH
                generalize hd rp = z1 at *
                generalize hd r = z2 at *
                obtain ⟨z1e, z1b⟩ := z1
                obtain ⟨z2e, z2b⟩ := z2
                unfold hV at LWH
                simp only at LWH CQ CZ
                clear CP EP RP hlp hp
                obtain ⟨kp, hkp⟩ : ∃ kp, kp = k - 1 := ⟨_, rfl⟩
                rw [← hkp] at CQ
                have hkw : IntKind.i64.wrap ((k : Int) - 1) = (kp : Int) := by rw [IntKind.wrap_i64]; omega
                have hkpi : (kp : Int) < (n : Int) := by omega
                have hk0 : (0 : Int) < (k : Int) := by omega
                clear hkp
                go_upto_region 18 with fail
                refine wp_region_seq (fun W => Below wr.heap.size wr W) (0 :: 1 :: 2 :: 3 :: 4 :: 5 :: 6 :: 7 :: 8 :: 9 :: 10 :: 11 :: 12 :: 13 :: 14 :: 15 :: 17 :: 18 :: []) (7 :: 9 :: 13 :: 15 :: []) (0 :: 1 :: 2 :: 3 :: 4 :: 5 :: 6 :: 7 :: 8 :: 9 :: 10 :: 11 :: 12 :: 13 :: 14 :: 15 :: 16 :: 17 :: 18 :: []) (by kernel_rfl) (by kernel_rfl) rfl (by kernel_rfl) rfl ((Below.refl _ _).drew) (by simp only [picked, List.filterMap_cons, List.filterMap_nil, List.getElem?_cons_zero, List.getElem?_cons_succ, Option.map_some]; exact rfl) ?_
                iterate 16
                  refine seq_want (v := ?_) rfl rfl (fun W hS => ?_) ?_
                  rotate_left
                  · first
                      | (conv => lhs; simp [go_sem, hki, hkw, hkpi, hk0, h0, hl1, hlp0]
                         first | done | exact rfl)
                      | (have hS := hS rfl
                         obtain ⟨v1, v2, v3⟩ := CZ.out W (then_ HW.out hS HW.out.size)
                         obtain ⟨v4, v5, v6⟩ := CQ.out W (then_ HW.out hS HW.out.size)
                         conv => lhs; simp [go_sem, *, hki, hkw, hkpi, hk0, h0, hl1, hlp0]
                         first | done | exact rfl)
                  simp only [Act.put, List.setIfInBounds_toArray, List.set_cons_zero, List.set_cons_succ]
                refine seq_on rfl rfl fun K hK => ?_
                go_wp2_with (go_at_call 18; refine (LWH.out _).mono ?_; rintro e w2 ⟨rfl, b2⟩)
                have Z2 := Lib.hid (then_ (Below.refl _ _).drew b2 (Nat.le_refl _))
                clear b2
                refine hK _ _ (Z2.out) ?_
                clear hK K
                iterate 2
                  refine seq_want (v := ?_) rfl rfl (fun W hS => ?_) ?_
                  rotate_left
                  · first
                      | (conv => lhs; simp [go_sem, hki, hkw, hkpi, hk0, h0, hl1, hlp0]
                         first | done | exact rfl)
                      | (have hS := hS rfl
                         obtain ⟨v1, v2, v3⟩ := CZ.out W (then_ HW.out hS HW.out.size)
                         obtain ⟨v4, v5, v6⟩ := CQ.out W (then_ HW.out hS HW.out.size)
                         conv => lhs; simp [go_sem, *, hki, hkw, hkpi, hk0, h0, hl1, hlp0]
                         first | done | exact rfl)
                  simp only [Act.put, List.setIfInBounds_toArray, List.set_cons_zero, List.set_cons_succ]
                refine seq_end ?_
                have B9 := Lib.hid (then_ HW.out Z2.out HW.out.size)
                have HM10 := Lib.hid (HM9.out.below Z2.out)
                clear CQ CZ LWH HM9 HW
                go_wp2
                go_roundw
                case rel => exact ⟨k + 1, lm2, by omega, by go_num, Lib.hid ⟨am, cm, rfl⟩, LM9, HM10, B9⟩
                case measure => simp [intOf] <;> omega
        · obtain rfl : k = n := by omega
          obtain ⟨am, cm, hsh⟩ := HSM.out
          subst hsh
          have LMZ : (lm : Int) = 2 * (m0 : Int) := by
            have := HLM.out
            rw [List.take_of_length_le (by rw [HN.out]; exact Nat.le_refl _), flat, TL.out] at this
            omega
          have BZ := Lib.hid (then_ B4.out HW.out B4.out.size)
          have PZ := Lib.hid ((FT.out _ HW.out).2)
          have hw2 : IntKind.i64.wrap (2 * (m0 : Int)) = (lm : Int) := by rw [LMZ, IntKind.wrap_i64]; omega
          obtain ⟨p1, p2⟩ := half_at PZ.out
          clear LMZ
          go_wp2_with (first
            | (go_at_call 12; refine (RT.out _ BY.out).mono ?_; rintro e w9 ⟨rfl, b9⟩; have B9 := Lib.hid (then_ BY.out b9 BY.out.size); obtain ⟨p3, p4⟩ := half_at (PY.out.keep b9); clear b9)
            | (go_at_call 11; refine (PL.out _ BZ.out).mono ?_; rintro e w8 ⟨rfl, b8⟩; have BY := Lib.hid (then_ BZ.out b8 BZ.out.size); have PY := Lib.hid (PZ.out.keep b8); clear b8))
          go_ret
          exact ⟨by simp, B9.out⟩
    · rw [rtB_not hr] at RT
      rw [(pvs_no hr).1, (pvs_no hr).2] at RG
      have LN : rg [] [] = [] := rfl
      rw [LN] at RG
      obtain ⟨a, c, rfl⟩ := hv.sl
      obtain ⟨a', c', rfl⟩ := he.sl
      have BB := Lib.hid (bx1 w 25 #[.slice a vs.length c, .slice a' es.length c'])
      have PO := Lib.hid (Own.made w 25 #[.slice a vs.length c, .slice a' es.length c'])
      clear hf hv he n40 m40 hr LN
      generalize vs.length = n0 at *
      generalize es.length = m0 at *
      go_enter Try.func4, Try.ntmps4
      obtain ⟨p1, p2⟩ := half_at PO.out
      go_upto_region 3 with (first
        | (go_at_call 9; refine (FW.out _ B1.out).mono ?_; rintro e w2 ⟨rfl, b2⟩; have B2 := Lib.hid (then_ B1.out b2 B1.out.size); have P2 := Lib.hid (P1.out.keep b2); clear b2)
        | (go_at_call 8; refine (AW.out _).mono ?_; rintro e w1 ⟨rfl, b1⟩; have B1 := Lib.hid (then_ BB.out b1 BB.out.size); have P1 := Lib.hid (PO.out.keep b1); obtain ⟨p3, p4⟩ := half_at P1.out; clear b1))
      clear p1 p2 p3 p4
      obtain ⟨p1, p2⟩ := half_at P2.out
      go_upto_region 4 with (first
        | (go_at_call 10; refine (RG.out _ B3.out).mono ?_; rintro e w4 ⟨u, LA, rfl, ra, ea, b4⟩; have HA := Lib.hid ra; have EA := Lib.hid ea; have B4 := Lib.hid (then_ B3.out b4 B3.out.size); have P4 := Lib.hid (P3.out.keep b4); clear ra ea b4)
        | (go_at_call 11; refine (PL.out _ B2.out).mono ?_; rintro e w3 ⟨rfl, b3⟩; have B3 := Lib.hid (then_ B2.out b3 B2.out.size); have P3 := Lib.hid (P2.out.keep b3); clear b3))
      clear p1 p2
      obtain ⟨a9, c9, hsh, -, -⟩ := HA.out.shape
      have LA0 : LA.length = 0 := by have := congrArg List.length EA.out; simpa using this
      rw [LA0] at hsh
      subst hsh
      clear HA EA LA0
      go_upto_region 6 with fail
      go_loopw [5] (fun j wr => j = .int .i64 0 ∧ Hid (Below w4.heap.size w4 wr)) (fun j wr => 0)
      case atStart => exact ⟨rfl, Lib.hid (Below.refl _ _)⟩
      case round =>
        obtain ⟨rfl, HW⟩ := hrel
        have BZ := Lib.hid (then_ B4.out HW.out B4.out.size)
        obtain ⟨p1, p2⟩ := half_at (P4.out.keep HW.out)
        go_wp2_with (first
          | (go_at_call 12; refine (RT.out _ BY.out).mono ?_; rintro e w9 ⟨rfl, b9⟩; have B9 := Lib.hid (then_ BY.out b9 BY.out.size); clear b9)
          | (go_at_call 11; refine (PL.out _ BZ.out).mono ?_; rintro e w8 ⟨rfl, b8⟩; have BY := Lib.hid (then_ BZ.out b8 BZ.out.size); clear b8))
        go_ret
        exact ⟨rfl, B9.out⟩
end Go.Proofs.Ytibnackmddigaaa.spinOnce
