
/- Crashes of a log, beside a disk and a log: the states, and what a law keeps in memory. Conditions: those that each theorem names. -/
import Derived.Test.YtmincpmkiheofaaCraR
import Derived.Test.YtmincpmkiheofaaActS
import Derived.Test.YtmincpmkiheofaaRdlP
namespace Go.Proofs.Ytmincpmkiheofaa
open Go.ChangeShapes Go.WideShapes Go.ChangeAt Go.RowKit
set_option linter.unusedVariables false
set_option linter.unusedSimpArgs false

/-- behind each crash S stands, or S and the transaction under way -/
def Crashy (s : St) (at_ size seq : Nat) (S : List (Nat × List ByteArray)) (way : List ByteArray) : Prop :=
  ∀ kp : Nat → Nat, (∀ j, kp j ≤ 64) → Idle (fi (settled kp s.wr 0 s.sure) at_) size seq S ∨ (way ≠ [] ∧ Idle (fi (settled kp s.wr 0 s.sure) at_) size seq (S ++ [((seq + S.length) % 18446744073709551616, way)]))
section
variable {s : St} {at_ size seq N : Nat} {S : List (Nat × List ByteArray)} {way ps : List ByteArray}
theorem Crashy.rest (h : Idle (fi s.sure at_) size seq S) (hw : s.wr = []) : Crashy s at_ size seq S way := fun kp _ => .inl (by rw [hw]; exact h)
theorem Crashy.idle (h : Crashy s at_ size seq S []) (hw : s.wr = []) : Idle (fi s.sure at_) size seq S := by
  rcases h (fun _ => 64) (fun _ => Nat.le_refl _) with h | ⟨h, -⟩
  · rw [hw] at h; exact h
  · exact absurd rfl h
theorem crashy_new (hfit : at_ + size ≤ N) : Idle (fi (fresh N).sure at_) size seq [] := by
  have hl : (fresh N).sure.length = N * 64 := by show (List.replicate (N * 64) (0 : UInt8)).length = _; simp
  exact Idle.nil (fun q hq => fi_size hl hfit q hq) fun q hq => fresh_vw N (at_ + q) 10
/-- a transaction's write -/
theorem Crashy.ran (h : Crashy s at_ size seq S []) (hok : s.Ok N) (hw : s.wr = []) (hfit : at_ + size ≤ N) (hs : seq < 18446744073709551616) (ha : arePg ps = true) (n2 : ps.length ≤ 64) (n3 : 1 + 9 * ps.length ≤ size - long S) {e : Int} {s' : St}
    (hr : (e, s') = runW N (txnOps (at_ + long S) ps ((seq + S.length) % 18446744073709551616)) (0, s)) :
    (e = 0 → s'.wr = [] → Crashy s' at_ size seq (S ++ [((seq + S.length) % 18446744073709551616, ps)]) []) ∧ Crashy s' at_ size seq S ps := by
  have hp := of_decide_eq_true ha
  have hne := List.length_pos_iff.2 hp.1
  have h2 := txn_crash (N := N) (h.idle hw) hok.len hw hfit hs hne n2 n3 hp.2 hr
  refine ⟨fun h0 hw' => Crashy.rest (h2.1 h0).2 hw', fun kp hkp => ?_⟩
  rcases h2.2 kp hkp with h3 | h3
  · exact .inl h3
  · exact .inr ⟨hp.1, h3⟩
theorem st_fi (hw : s.wr = []) : st s at_ = fi s.sure at_ := by
  funext q
  unfold st vw fi
  rw [hw]
  rfl
/-- what stands behind a crash -/
theorem Crashy.cut (h : Crashy s at_ size seq S way) (hs : seq < 18446744073709551616) (len : Nat) (zs : List Bool) (torn bytes : Int) :
    (standsAt (st (cres s len zs torn bytes) at_) size seq = S ∧ Crashy (cres s len zs torn bytes) at_ size seq S []) ∨
    (way ≠ [] ∧ standsAt (st (cres s len zs torn bytes) at_) size seq = S ++ [((seq + S.length) % 18446744073709551616, way)] ∧ Crashy (cres s len zs torn bytes) at_ size seq (S ++ [((seq + S.length) % 18446744073709551616, way)]) []) := by
  rw [st_fi (s := cres s len zs torn bytes) rfl]
  rcases h (ckeep len zs torn bytes) (ckeep_le len zs torn bytes) with h | ⟨h0, h⟩
  · have h' : Idle (fi (cres s len zs torn bytes).sure at_) size seq S := h
    exact .inl ⟨h'.stands hs, Crashy.rest h' rfl⟩
  · have h' : Idle (fi (cres s len zs torn bytes).sure at_) size seq _ := h
    exact .inr ⟨h0, h'.stands hs, Crashy.rest h' rfl⟩
theorem Idle.nos {f : Nat → ByteArray} (h : Idle f size seq S) (hs : seq ≤ 18446744073709551615) : ∀ t ∈ S, t.1 ≤ 18446744073709551615 := by
  have e := h.stands (by omega)
  rw [← e]
  exact stands_seq f _ _ _ _ hs
theorem Crashy.nos (h : Crashy s at_ size seq S way) (hs : seq ≤ 18446744073709551615) : (∀ t ∈ S, t.1 ≤ 18446744073709551615) ∧ S.length ≤ size := by
  have hk : ∀ f, Idle f size seq S → (∀ t ∈ S, t.1 ≤ 18446744073709551615) ∧ S.length ≤ size := fun f h => ⟨h.nos hs, Nat.le_trans (long_ge S) h.fit⟩
  rcases h (fun _ => 64) (fun _ => Nat.le_refl _) with h | ⟨-, h⟩
  · exact hk _ h
  · have h1 := h.nos hs
    have h2 := h.fit
    rw [long_snoc] at h2
    exact ⟨fun t ht => h1 t (by simp [ht]), by have := long_ge S; omega⟩
end
/-- the blocks that neither the disk nor the log holds, none of them old -/
def Apart (w0 : World) (lg d sb mb : Nat) (wv : Value) (b : Nat) : Prop := (¬ fp d sb mb wv b ∧ b ≠ lg) ∧ w0.heap.size ≤ b
section
variable {w0 W W' : World} {lg d sb mb sc : Nat} {wv wv' : Value} {N : Nat} {s s' : St} {l l' : LogS} {T : TypeId} {v u : Value} {S : List (Nat × List ByteArray)} {way : List ByteArray}
theorem Ses.apart (h : Ses w0 W lg d sb mb sc wv N s l) {b : Nat} (hb : W.heap.size ≤ b) : Apart w0 lg d sb mb wv b := by
  refine ⟨⟨fun hf => by have := h.disk.in_ hf; omega, fun e => by have := h.log.in_; omega⟩, ?_⟩
  have := h.below.size
  omega
/-- what turns neither the disk nor the log -/
theorem Ses.other (h : Ses w0 W lg d sb mb sc wv N s l) {Z : Nat → Prop} (hc : Chg Z W W') (hZ : ∀ q, Z q → Apart w0 lg d sb mb wv q) : Ses w0 W' lg d sb mb sc wv N s l :=
  ⟨h.disk.keep hc fun q hq e => (hZ q e).1.1 hq, hc.own h.log fun e => (hZ _ e).1.2 rfl, h.ok, h.fit, h.new, h.lnew, h.ap, h.below.trans (hc.below h.below.size fun q hq => (hZ q hq).2), h.few, h.clean⟩
/-- behind a call that turned the disk and the log -/
theorem apart_turn (hc : Chg (fun q => fp d sb mb wv q ∨ q = lg) W W') (hf : ∀ q, q < W.heap.size → fp d sb mb wv' q → fp d sb mb wv q) :
    TxOwn W T (Apart w0 lg d sb mb wv) v S ∧ StrsIn W (Apart w0 lg d sb mb wv) u way → TxOwn W' T (Apart w0 lg d sb mb wv') v S ∧ StrsIn W' (Apart w0 lg d sb mb wv') u way := by
  have k1 : ∀ b, b < W.heap.size → Apart w0 lg d sb mb wv b → Apart w0 lg d sb mb wv b ∧ b < W.heap.size := fun b hb h => ⟨h, hb⟩
  have k2 : ∀ b, b < W.heap.size → (Apart w0 lg d sb mb wv b ∧ b < W.heap.size) → ¬ (fp d sb mb wv b ∨ b = lg) := fun b _ h e => e.elim h.1.1.1 h.1.1.2
  have k3 : ∀ b, b < W'.heap.size → (Apart w0 lg d sb mb wv b ∧ b < W.heap.size) → Apart w0 lg d sb mb wv' b := fun b _ h => ⟨⟨fun e => h.1.1.1 (hf b h.2 e), h.1.1.2⟩, h.1.2⟩
  exact fun h => ⟨((h.1.mono k1).keep hc k2).mono k3, ((h.2.mono k1).keep hc k2).mono k3⟩
/-- .. or the disk alone, and the log is a new one -/
theorem apart_cut {lg' : Nat} (hc : Chg (fp d sb mb wv) W W') (hf : ∀ q, fp d sb mb wv' q → fp d sb mb wv q) (hlg : W.heap.size ≤ lg') :
    TxOwn W T (Apart w0 lg d sb mb wv) v S ∧ StrsIn W (Apart w0 lg d sb mb wv) u way → TxOwn W' T (Apart w0 lg' d sb mb wv') v S ∧ StrsIn W' (Apart w0 lg' d sb mb wv') u way := by
  have k1 : ∀ b, b < W.heap.size → Apart w0 lg d sb mb wv b → Apart w0 lg d sb mb wv b ∧ b < W.heap.size := fun b hb h => ⟨h, hb⟩
  have k2 : ∀ b, b < W.heap.size → (Apart w0 lg d sb mb wv b ∧ b < W.heap.size) → ¬ fp d sb mb wv b := fun b _ h e => h.1.1.1 e
  have k3 : ∀ b, b < W'.heap.size → (Apart w0 lg d sb mb wv b ∧ b < W.heap.size) → Apart w0 lg' d sb mb wv' b := fun b _ h => ⟨⟨fun e => h.1.1.1 (hf b e), by omega⟩, h.1.2⟩
  exact fun h => ⟨((h.1.mono k1).keep hc k2).mono k3, ((h.2.mono k1).keep hc k2).mono k3⟩
theorem StrsIn.none {w w' : World} {P Q : Nat → Prop} {v : Value} (h : StrsIn w P v []) : StrsIn w' Q v [] := by
  obtain ⟨a, c, h1, h2, h3, h4, -⟩ := h
  exact ⟨a, c, h1, h2, h3, h4, .inl rfl⟩
end
end Go.Proofs.Ytmincpmkiheofaa
