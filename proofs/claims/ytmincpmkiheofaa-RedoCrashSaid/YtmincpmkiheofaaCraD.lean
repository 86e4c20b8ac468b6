
/- Slices of transactions that are copied and grown by append: what is there then. Conditions: those that each theorem names. -/
import Derived.Test.YtmincpmkiheofaaCraB
import Derived.Test.YtmincpmkiheofaaFork
import Derived.Maps.AppendAt
namespace Go.Proofs.Ytmincpmkiheofaa
open Go.ChangeShapes Go.WideShapes Go.ChangeAt Go.RowKit
set_option linter.unusedVariables false
set_option linter.unusedSimpArgs false

section
variable {P : Program} {w : World}
theorem run_append_none (t ty e : TypeId) (i : TypeInfo) (ht : P.underlying t = some (.slice e)) (hi : P.info? e = some i) (b : Nat) :
    (Builtin.append_ #[t, t] ty #[.slice (some ⟨b, 0, none⟩) 0 0, .slice none 0 0]).run P w = .ok (.slice (some ⟨b, 0, none⟩) 0 0) w := by
  simp [Builtin.append_, run_underlying ht, sizeOf, typeInfo, hi, Builtin.lenOf, Builtin.firstCells, loadCells, loadCellsFrom, storeCells]
theorem txc_one : ∀ (ts : List (Nat × List ByteArray)) (vs : List Value), (∀ u ∈ vs, u.oneCell' = true) → ∀ u ∈ txc ts vs, u.oneCell' = true
  | [], _, _, u, hu => by simp [txc] at hu
  | _ :: _, [], _, u, hu => by simp [txc] at hu
  | t :: ts, v :: vs, h, u, hu => by
    simp only [txc, List.mem_cons] at hu
    rcases hu with rfl | rfl | hu
    · rfl
    · exact h _ (by simp)
    · exact txc_one ts vs (fun u hu => h u (by simp [hu])) u hu
/-- a new slice with all that sure holds -/
theorem TxRow.copied {T : TypeId} {S : Nat → Prop} {v : Value} {ts : List (Nat × List ByteArray)} {vs : List Value} (h : TxRow w T S v ts vs) (hlen : ts.length ≤ 1000) (t ty : TypeId) (i : TypeInfo) (z : Value)
    (ht : P.underlying t = some (.slice T)) (hi : P.info? T = some i) (hz : i.zero = some z) (hsize : i.size = 2) (hby : i.bytes = 32) (hzs : z.cells.size = 2)
    (b B : Nat) (hb : w.ownsRow 0 T 2 (.slice (some ⟨b, 0, none⟩) 0 0) 0 []) (hB : B ≤ b) (hBw : B ≤ w.heap.size) (hS : ∀ q, B ≤ q → S q) (hv : ∀ g, v.ownBlock = some g → g < B) (hvs : ∀ i (hi : i < ts.length) u, vs[i]? = some u → StrsIn w (fun q => S q ∧ q < B) u (ts[i]'hi).2) :
    ∃ v' w', (Builtin.append_ #[t, t] ty #[.slice (some ⟨b, 0, none⟩) 0 0, v]).run P w = .ok v' w' ∧ TxRow w' T S v' ts vs ∧ Chg (fun q => q = b) w w' ∧ (∀ g, v'.ownBlock = some g → B ≤ g) := by
  have hfin : ∀ v' w', w'.ownsRow 0 T 2 v' ts.length (txc ts vs) → w.grownBy w' (some b) → (v'.ownBlock = some b ∨ v'.ownBlock = some w.heap.size) → TxRow w' T S v' ts vs ∧ Chg (fun q => q = b) w w' ∧ (∀ g, v'.ownBlock = some g → B ≤ g) := fun v' w' h1 h2 h3 => by
    have hc : Chg (fun q => q = b) w w' := (Chg.refl _ w).grown h2 fun k hk => .inl (by injection hk with hk; exact hk.symm)
    have hg : ∀ g, v'.ownBlock = some g → B ≤ g := fun g hg => by
      rcases h3 with h | h <;> (rw [h] at hg; injection hg with hg; omega)
    refine ⟨⟨h.len, h1, fun g e => hS _ (hg g e), fun i hi => ?_⟩, hc, hg⟩
    obtain ⟨u, hu, -⟩ := h.strs i hi
    refine ⟨u, hu, ((hvs i hi u hu).keep hc fun q _ hq e => by omega).mono fun q _ hq => ⟨hq.1, fun e => ?_⟩⟩
    have := hg q e
    omega
  rcases h.row.2 with ⟨rfl, h0⟩ | ⟨g, cap, cur, rfl, h1, h2, h3, h4, h5, h6⟩
  · obtain rfl : ts = [] := List.length_eq_zero_iff.1 h0
    obtain rfl : vs = [] := List.length_eq_zero_iff.1 h.len
    exact ⟨_, _, run_append_none t ty T i ht hi b, hfin _ _ hb ⟨rfl, rfl, rfl, Nat.le_refl _, fun _ _ _ => rfl⟩ (.inl rfl)⟩
  · have h1c : ∀ u ∈ txc ts vs, u.oneCell' = true := txc_one ts vs fun u hu => by
      obtain ⟨i, hi, rfl⟩ := List.getElem_of_mem hu
      obtain ⟨u', hu', hs'⟩ := h.strs i (by rw [← h.len]; exact hi)
      rw [List.getElem?_eq_getElem hi] at hu'
      obtain ⟨a, c, e, -⟩ := hs'.open_
      rw [Option.some.inj hu', e]
      rfl
    obtain ⟨v', w', hr, ho, hg, hn, hl⟩ := run_append_own_at (P := P) w 0 t ty T i z 2 32 ht hi hz hsize hby hzs (by decide) (.slice (some ⟨b, 0, none⟩) 0 0) 0 [] hb ⟨g, 0, none⟩ ts.length cap (txc ts vs) (txc_len ts vs h.len)
      (fun j u hu => h.row.cells (g := g) rfl j u hu) h1c (by unfold maxLen; omega) (by omega) (Nat.zero_le _)
    rw [Nat.zero_add, List.nil_append] at ho
    exact ⟨v', w', hr, hfin v' w' ho hg hl⟩
/-- .. and one more -/
theorem TxRow.one_more {T : TypeId} {S : Nat → Prop} {v u : Value} {ts : List (Nat × List ByteArray)} {vs : List Value} (h : TxRow w T S v ts vs) (n : Nat) (l : List ByteArray) (hu : StrsIn w (fun b => S b ∧ v.ownBlock ≠ some b) u l) (hlen : ts.length ≤ 1000) (t ty : TypeId) (i : TypeInfo) (z : Value)
    (ht : P.underlying t = some (.slice T)) (hi : P.info? T = some i) (hz : i.zero = some z) (hsize : i.size = 2) (hby : i.bytes = 32) (hzs : z.cells.size = 2) (ad : Addr) (hc0 : w.cell? (ad.add 0) = some (.int .u64 (n : Int))) (hc1 : w.cell? (ad.add 1) = some u) (hS : ∀ q, w.heap.size ≤ q → S q) :
    ∃ v' w', (Builtin.append_ #[t, t] ty #[v, .slice (some ad) 1 1]).run P w = .ok v' w' ∧ TxOwn w' T S v' (ts ++ [(n, l)]) ∧ Chg (fun q => v.ownBlock = some q) w w' ∧ (v'.ownBlock = v.ownBlock ∨ v'.ownBlock = some w.heap.size) := by
  obtain ⟨ua, uc, rfl, -⟩ := hu.open_
  obtain ⟨v', w', hr, ho, hg, hn, hl⟩ := run_append_own_at (P := P) w 0 t ty T i z 2 32 ht hi hz hsize hby hzs (by decide) v ts.length (txc ts vs) h.row ad 1 1 [.int .u64 (n : Int), .slice ua l.length uc] rfl
    (fun j u hu => by
      match j, hu with
      | 0, hu => simp at hu; rw [← hu]; exact hc0
      | 1, hu => simp at hu; rw [← hu]; exact hc1) (by intro u hu; simp at hu; rcases hu with rfl | rfl <;> rfl) (by unfold maxLen; omega) (by omega) (Nat.zero_le _)
  have hp := TxRow.push h (t := (n, l)) hu (Below.refl _ _) ho hg hl hS
  exact ⟨v', w', hr, hp.1, hp.2, hl⟩
end
section
variable {P : Program} {W0 W : World} {T : TypeId} {S : Nat → Prop} {v u : Value} {ts : List (Nat × List ByteArray)} {l : List ByteArray}
theorem TxOwn.own_lt (h : TxOwn W0 T S v ts) : ∀ g, v.ownBlock = some g → g < W0.heap.size := by
  obtain ⟨vs, h1, h2, h3, h4⟩ := h
  exact fun g hg => (h2.lt g hg).2
/-- sure = append(sure, ..) -/
theorem grow_one (hT : TxOwn W0 T S v ts) (hb : Below W0.heap.size W0 W) {B : Nat} (hp : StrsIn W0 (fun b => S b ∧ B ≤ b) u l) (hob : ∀ g, v.ownBlock = some g → g < B) (n : Nat) (hlen : ts.length ≤ 1000) (t ty : TypeId) (i : TypeInfo) (z : Value)
    (ht : P.underlying t = some (.slice T)) (hi : P.info? T = some i) (hz : i.zero = some z) (hsize : i.size = 2) (hby : i.bytes = 32) (hzs : z.cells.size = 2) (ad : Addr) (hc : ∀ j x, [.int .u64 (n : Int), u][j]? = some x → W.cell? (ad.add j) = some x) (hS : ∀ q, W0.heap.size ≤ q → S q) :
    ∃ v' w', (Builtin.append_ #[t, t] ty #[v, .slice (some ad) 1 1]).run P W = .ok v' w' ∧ TxOwn w' T S v' (ts ++ [(n, l)]) ∧ Chg (fun q => v.ownBlock = some q) W0 w' ∧ (∀ q, v.ownBlock = some q → S q) := by
  obtain ⟨vs, hR⟩ := hT.below hb
  have hu : StrsIn W (fun b => S b ∧ v.ownBlock ≠ some b) u l := (hp.below hb).mono fun b _ hh => ⟨hh.1, fun e => by have := hob b e; omega⟩
  have hz := hb.size
  obtain ⟨v', w', h1, h2, h3, h4⟩ := hR.one_more n l hu hlen t ty i z ht hi ‹_› hsize hby hzs ad (hc 0 _ rfl) (hc 1 _ rfl) fun q hq => hS q (by omega)
  exact ⟨v', w', h1, h2, (Chg.of hb).same h3, hR.at_⟩
end
section
variable {P : Program} {W0 W : World} {T : TypeId} {S : Nat → Prop} {v u : Value} {ts : List (Nat × List ByteArray)} {l : List ByteArray}
theorem copy_all (hT : TxOwn W0 T S v ts) (hlen : ts.length ≤ 1000) (t ty : TypeId) (i : TypeInfo) (z : Value)
    (ht : P.underlying t = some (.slice T)) (hi : P.info? T = some i) (hz : i.zero = some z) (hsize : i.size = 2) (hby : i.bytes = 32) (hzs : z.cells.size = 2) (hS : ∀ q, W0.heap.size ≤ q → S q) :
    ∃ v' w', (Builtin.append_ #[t, t] ty #[.slice (some ⟨W0.heap.size, 0, none⟩) 0 0, v]).run P (W0.alloc (.cells #[] T)) = .ok v' w' ∧ TxOwn w' T S v' ts ∧ Below W0.heap.size W0 w' ∧ (∀ g, v'.ownBlock = some g → W0.heap.size ≤ g) := by
  have hlt := hT.own_lt
  obtain ⟨vs, hR⟩ := hT
  have hb : Below W0.heap.size W0 (W0.alloc (.cells #[] T)) := (Below.refl _ _).alloc (Nat.le_refl _) _
  have hR2 : TxRow (W0.alloc (.cells #[] T)) T S v ts vs := ⟨hR.len, hR.row.alloc _, hR.at_, fun i hi => by
    obtain ⟨u, hu, hs⟩ := hR.strs i hi
    exact ⟨u, hu, hs.below hb⟩⟩
  obtain ⟨v', w', h1, h2, h3, h4⟩ := hR2.copied hlen t ty i z ht hi hz hsize hby hzs W0.heap.size W0.heap.size (World.ownsRow_made W0 #[] 0 (Nat.zero_le _) (Nat.zero_le _) (by simp)) (Nat.le_refl _) hb.size hS hlt fun i hi u hu => by
    obtain ⟨u', hu', hs⟩ := hR.strs i hi
    rw [hu] at hu'
    obtain rfl : u = u' := by injection hu'
    exact (hs.mono fun b hb h => ⟨h.1, hb⟩).below hb
  exact ⟨v', w', h1, ⟨vs, h2⟩, hb.trans (h3.below hb.size fun q hq => by rw [hq]; exact Nat.le_refl _), h4⟩
theorem grow_two (hT : TxOwn W0 T S v ts) (hb : Below W0.heap.size W0 W) {B : Nat} (hBz : B ≤ W0.heap.size) (hp : StrsIn W0 (fun b => S b ∧ b < B) u l) (hob : ∀ g, v.ownBlock = some g → B ≤ g) (n : Nat) (hlen : ts.length ≤ 1000) (t ty : TypeId) (i : TypeInfo) (z : Value)
    (ht : P.underlying t = some (.slice T)) (hi : P.info? T = some i) (hz : i.zero = some z) (hsize : i.size = 2) (hby : i.bytes = 32) (hzs : z.cells.size = 2) (ad : Addr) (hc : ∀ j x, [.int .u64 (n : Int), u][j]? = some x → W.cell? (ad.add j) = some x) (hS : ∀ q, W0.heap.size ≤ q → S q) :
    ∃ v' w', (Builtin.append_ #[t, t] ty #[v, .slice (some ad) 1 1]).run P W = .ok v' w' ∧ TxOwn w' T S v' (ts ++ [(n, l)]) ∧ Below B W0 w' := by
  obtain ⟨vs, hR⟩ := hT.below hb
  have hu : StrsIn W (fun b => S b ∧ v.ownBlock ≠ some b) u l := (hp.below hb).mono fun b _ hh => ⟨hh.1, fun e => by have := hob b e; omega⟩
  have hz2 := hb.size
  obtain ⟨v', w', h1, h2, h3, h4⟩ := hR.one_more n l hu hlen t ty i z ht hi hz hsize hby hzs ad (hc 0 _ rfl) (hc 1 _ rfl) fun q hq => hS q (by omega)
  exact ⟨v', w', h1, h2, ((Chg.of hb).same h3).below hBz fun q hq => hob q hq⟩
end
/-- what plain answers behind an Open is apart from the disk and the log -/
theorem opened_apart {w0 W1 W2 : World} {T : TypeId} {lg d sb mb sc N z : Nat} {wv v : Value} {s : St} {ts : List (Nat × List ByteArray)} (hD : DiskAt W1 d sb mb sc wv N s) (hlg : W1.heap.size ≤ lg) (hz : lg < z) (hB : Below w0.heap.size w0 W1) (h : TxOwn W2 T (fun b => lg < b ∨ z ≤ b) v ts) : TxOwn W2 T (Apart w0 lg d sb mb wv) v ts := by
  have h0 := hB.size
  refine h.mono fun b _ hb => ⟨⟨fun e => ?_, ?_⟩, ?_⟩
  · have := hD.in_ e; omega
  · omega
  · omega
/-- what Append does where there are five pages at most -/
theorem ares_three (N : Nat) (s : St) (l : LogS) (ps : List ByteArray) (hk : l.Ok) (hfit : l.from_ + l.size ≤ N) (h5 : ps.length ≤ 5) :
    (∃ c fl, c ≠ 0 ∧ (s.down = false → c ≠ 11) ∧ (fl = false → l.failed = false) ∧ ares N s l ps = (c, s, ⟨l.from_, l.size, l.used, l.next, fl⟩)) ∨
    (∃ s', arePg ps = true ∧ l.failed = false ∧ 1 + 9 * ps.length ≤ l.size - l.used ∧ s.down = false ∧ (0, s') = runW N (txnOps (l.from_ + l.used) ps l.next) (0, s) ∧ s'.wr = [] ∧ ares N s l ps = (0, s', l.plus ps.length)) ∨
    (∃ s', arePg ps = true ∧ l.failed = false ∧ 1 + 9 * ps.length ≤ l.size - l.used ∧ s.down = false ∧ (11, s') = runW N (txnOps (l.from_ + l.used) ps l.next) (0, s) ∧ ares N s l ps = (11, s', ⟨l.from_, l.size, l.used, l.next, true⟩)) := by
  rcases ares_all N s l ps hk hfit with ⟨-, e⟩ | ⟨-, -, e⟩ | ⟨-, -, h, -⟩ | ⟨-, -, -, -, e⟩ | ⟨-, -, -, -, hd, e⟩ | ⟨s', h1, h2, -, h4, h5, h6, -, h8, -, e⟩ | ⟨s', h1, h2, -, h4, h5, h6, -, -, e⟩
  · exact .inl ⟨1, l.failed, by decide, fun _ => by decide, id, e⟩
  · exact .inl ⟨17, l.failed, by decide, fun _ => by decide, id, e⟩
  · omega
  · exact .inl ⟨9, l.failed, by decide, fun _ => by decide, id, e⟩
  · exact .inl ⟨11, true, by decide, (fun h => by rw [hd] at h; cases h), (fun h => by cases h), e⟩
  · exact .inr (.inl ⟨s', h1, h2, h4, h5, h6, h8, e⟩)
  · exact .inr (.inr ⟨s', h1, h2, h4, h5, h6, e⟩)
section
variable {P : Program} {ops : Array Oper} {Q : Exit → Act → World → Prop} {md : Region.Mode} {cls see : Nat → Bool}
theorem op_append {i : Nat} {K : Act → World → Prop} {a : Act} {w : World} {o : Oper} (ho : ops[i]? = some o) (hg : Region.wanted o (yielded ops a.tmps) = true) (s x : Operand) (t : TypeId) (hop : o.op = .call { callee := .builtin .append, args := #[s, x], argTypes := #[t, t] })
    (v y : Value) (hs : a.eval s = v) (hx : a.eval x = y) {v' : Value} {w' : World} (hr : (Builtin.append_ #[t, t] o.type #[v, y]).run P w = .ok v' w') (h : K (a.put o.dst v') w') : wpOp P ops Q i K a w := by
  unfold wpOp
  simp only [ho, hg, if_true]
  refine .inl ?_
  unfold Oper.wp execOp
  simp only [hop, resolve, invoke, builtin, Sem.run_bind, Sem.run_pure, Result.andThen_ok, List.map_toArray, List.map_cons, List.map_nil, hs, hx, hr]
  exact h
theorem seq_wp {i : Nat} {o : Oper} {l : List (Nat × Oper)} {a : Act} {w : World} (hc : cls i = false) (h : wpOp P ops Q i (fun a' w' => wpSeq P md ops Q (fun _ => True) cls see l a' w') a w) : wpSeq P md ops Q (fun _ => True) cls see ((i, o) :: l) a w := by
  unfold wpSeq
  simp only [hc, Bool.false_eq_true, if_false]
  exact wpOp_mono (fun a' w' h' => ⟨fun _ => trivial, fun _ => trivial, h'⟩) h
theorem wpList_append2 {rest : List Oper} {a : Act} {w : World} {o : Oper} {R : Value → World → Prop} (hg : Region.wanted o (yielded ops a.tmps) = true) (s x : Operand) (t : TypeId) (hop : o.op = .call { callee := .builtin .append, args := #[s, x], argTypes := #[t, t] })
    (v y : Value) (hs : a.eval s = v) (hx : a.eval x = y) (hr : ∃ v' w', (Builtin.append_ #[t, t] o.type #[v, y]).run P w = .ok v' w' ∧ R v' w') (h : ∀ v' w', R v' w' → wpList P ops Q rest (a.put o.dst v') w') : wpList P ops Q (o :: rest) a w := by
  obtain ⟨v', w', h1, h2⟩ := hr
  unfold wpList
  rw [if_pos hg]
  refine .inl ?_
  unfold Oper.wp execOp
  simp only [hop, resolve, invoke, builtin, Sem.run_bind, Sem.run_pure, Result.andThen_ok, List.map_toArray, List.map_cons, List.map_nil, hs, hx, h1]
  exact h v' w' h2
theorem op_append2 {i : Nat} {K : Act → World → Prop} {a : Act} {w : World} {o : Oper} {R : Value → World → Prop} (ho : ops[i]? = some o) (hg : Region.wanted o (yielded ops a.tmps) = true) (s x : Operand) (t : TypeId) (hop : o.op = .call { callee := .builtin .append, args := #[s, x], argTypes := #[t, t] })
    (v y : Value) (hs : a.eval s = v) (hx : a.eval x = y) (hr : ∃ v' w', (Builtin.append_ #[t, t] o.type #[v, y]).run P w = .ok v' w' ∧ R v' w') (h : ∀ v' w', R v' w' → K (a.put o.dst v') w') : wpOp P ops Q i K a w := by
  obtain ⟨v', w', h1, h2⟩ := hr
  exact op_append ho hg s x t hop v y hs hx h1 (h v' w' h2)
end
end Go.Proofs.Ytmincpmkiheofaa
