
/- Two or more builders side by side: the contracts of (*strings.Builder).WriteString and String, with the blocks that they write named. Conditions: a builder of the call's own, the length within Go's own limit. -/
import Derived.Test.YteepggjbgdjchaaDoorBuild
import Derived.Test.YteepggjbgdjchaaDoorSta
namespace Go.Proofs.YteepggjbgdjchaaDoor
open Go.ChangeShapes Go.WideShapes Go.ChangeAt Go.RowKit
set_option linter.unusedVariables false
set_option linter.unusedSimpArgs false

/-- a builder in block b whose buffer is v, and that holds the bytes l -/
def Bld (w : World) (b : Nat) (v : Value) (l : List UInt8) : Prop :=
  ∃ p, (p = .pointer none ∨ p = .pointer (some ⟨b, 0, none⟩)) ∧ w.heap[b]? = some (.cells #[p, v] tB (0, 0)) ∧ w.ownsRow 0 t8 1 v l.length (Lib.byteCells l) ∧ v.ownBlock ≠ some b
theorem bt_keep {w w' : World} {e : TypeId} {size : Nat} {v : Value} {n : Nat} {xs : List Value} (h : w.ownsRow 0 e size v n xs) (hk : ∀ g, v.ownBlock = some g → w'.heap[g]? = w.heap[g]?) : w'.ownsRow 0 e size v n xs := by
  refine ⟨h.1, ?_⟩
  rcases h.2 with h2 | ⟨g, cap, cur, rfl, r1, r2, r3⟩
  · exact .inl h2
  · exact .inr ⟨g, cap, cur, rfl, r1, (hk g rfl).trans r2, r3⟩
theorem Bld.lt {w : World} {b : Nat} {v : Value} {l : List UInt8} (h : Bld w b v l) : b < w.heap.size ∧ ∀ g, v.ownBlock = some g → g < w.heap.size := by
  obtain ⟨p, hp, hb, ho, hn⟩ := h
  exact ⟨(Array.getElem?_eq_some_iff.1 hb).1, fun g hg => (ho.lt g hg).2⟩
theorem Bld.keep {w w' : World} {S : Nat → Prop} {b : Nat} {v : Value} {l : List UInt8} (h : Bld w b v l) (hc : Chg S w w') (h1 : ¬ S b) (h2 : ∀ g, v.ownBlock = some g → ¬ S g) : Bld w' b v l := by
  have hl := h.lt
  obtain ⟨p, hp, hb, ho, hn⟩ := h
  exact ⟨p, hp, (hc.block b hl.1 h1).trans hb, bt_keep ho fun g hg => hc.block g (hl.2 g hg) (h2 g hg), hn⟩
theorem Bld.below {w w' : World} {b : Nat} {v : Value} {l : List UInt8} (h : Bld w b v l) (hb : Below w.heap.size w w') : Bld w' b v l := h.keep (Chg.of (S := fun _ => False) hb) (fun h => h) (fun _ _ h => h)
theorem Bld.new (w : World) : Bld (w.alloc (.cells #[.pointer none, .slice none 0 0] tB)) w.heap.size (.slice none 0 0) [] :=
  ⟨_, .inl rfl, by unfold World.alloc; simp, World.ownsRow_nil _ _ _ _, by intro h; cases h⟩
theorem Bld.is {w : World} {b : Nat} {v : Value} {l : List UInt8} (h : Bld w b v l) {B : Nat} (hB : B ≤ b) (hg : ∀ g, v.ownBlock = some g → B ≤ g) : Lib.IsBuilder tB t8 B b (Lib.byteCells l) w := by
  obtain ⟨p, hp, hb, ho, hn⟩ := h
  have key : Lib.BuilderAt tB t8 B b p (Lib.byteCells l) w := ⟨hB, v, hb, by
    rw [Lib.byteCells_length]
    refine ⟨ho.1, ?_⟩
    rcases ho.2 with h2 | ⟨g, cap, cur, rfl, r1, r2⟩
    · exact .inl h2
    · exact .inr ⟨g, cap, cur, rfl, hg g rfl, r2⟩, hn⟩
  rcases hp with rfl | rfl
  · exact .inl key
  · exact .inr key
section
variable {P : Program} (w : World)
theorem append_str_at (t u ty e : TypeId) (i : TypeInfo) (ht : P.underlying t = some (.slice e)) (hu : P.underlying u = some .string) (hi : P.info? e = some i) (hz : i.zero = some (.int .u8 0))
    (hsize : i.size = 1) (hby : i.bytes = 1)
    (v : Value) (n : Nat) (xs : List Value) (hown : w.ownsRow 0 e 1 v n xs) (s : ByteArray)
    (h63 : n + s.size ≤ maxLen) (hbytes : n + s.size ≤ 140737488355328) :
    ∃ v' w', (Builtin.append_ #[t, u] ty #[v, .string s]).run P w = .ok v' w' ∧ w'.ownsRow 0 e 1 v' (n + s.size) (xs ++ Lib.strCells s) ∧ w.grownBy w' v.ownBlock ∧ (v'.ownBlock = v.ownBlock ∨ ∃ q, v'.ownBlock = some q ∧ w.heap.size ≤ q) := by
  obtain ⟨v', w', hr, h2, h3, h4⟩ := Lib.run_append_own_string (P := P) w 0 t u ty e i ht hu hi hz hsize hby v n xs hown s h63 hbytes (Nat.zero_le _)
  refine ⟨v', w', hr, h2, h3, ?_⟩
  have hxl : xs.length = n := by simpa using hown.1
  rcases hown.2 with ⟨rfl, rfl⟩ | ⟨g, cap, cur, rfl, hbg, hg, hnc, hcm, hcs, htake⟩
  · have hx : xs = [] := List.eq_nil_of_length_eq_zero hxl
    subst hx
    obtain ⟨v2, w2, kr, k2, k3, k4⟩ := Lib.run_append_own_string (P := P) w w.heap.size t u ty e i ht hu hi hz hsize hby (.slice none 0 0) 0 [] (World.ownsRow_nil _ _ _ _) s h63 hbytes (Nat.le_refl _)
    rw [hr] at kr
    injection kr with e1 e2
    subst e1 e2
    rcases k2.2 with ⟨rfl, _⟩ | ⟨g, cap, cur, rfl, hb, _⟩
    · exact .inl rfl
    · exact .inr ⟨g, rfl, hb⟩
  · by_cases hroom : n + s.size ≤ cap
    · have kr := Lib.run_append_room_string (P := P) w t u ty e i ht hu hi hsize g n cap cur hg s hroom (by have hq : cur.size = cap := (by simpa using hcs); omega)
      rw [hr] at kr
      injection kr with e1 e2
      rw [e1]
      exact .inl rfl
    · have hsmall : n + s.size ≤ 9223372036854775807 := by simp only [maxLen] at h63; omega
      have holds : ∀ j u, xs[j]? = some u → w.cell? ((⟨g, 0, none⟩ : Addr).add j) = some u := hown.cells (g := g) rfl
      have kr := Lib.run_append_grow_string (P := P) w t u ty e i (.int .u8 0) ht hu hi hz ⟨g, 0, none⟩ n cap xs (by rw [hsize]; simpa using hxl) holds s (by omega) (by omega) (by rw [hby]; exact growslice_fits (by omega) (by omega))
      rw [hr] at kr
      injection kr with e1 e2
      rw [e1]
      exact .inr ⟨_, rfl, Nat.le_refl _⟩
theorem wpList_append_str_at {ops : Array Oper} {rest : List Oper} {o : Oper} {a : Act} {Q : Exit → Act → World → Prop} (hgd : o.guard = none) (sl x : Operand) (t u : TypeId)
    (ho : o.op = .call { callee := .builtin .append, args := #[sl, x], argTypes := #[t, u] })
    (e : TypeId) (i : TypeInfo) (ht : P.underlying t = some (.slice e)) (hu : P.underlying u = some .string) (hi : P.info? e = some i) (hz : i.zero = some (.int .u8 0))
    (hsize : i.size = 1) (hby : i.bytes = 1)
    (v : Value) (n : Nat) (xs : List Value) (hs : a.eval sl = v) (hown : w.ownsRow 0 e 1 v n xs) (s : ByteArray) (hx : a.eval x = .string s)
    (h63 : n + s.size ≤ maxLen) (hbytes : n + s.size ≤ 140737488355328)
    (h : ∀ v' w', w'.ownsRow 0 e 1 v' (n + s.size) (xs ++ Lib.strCells s) → w.grownBy w' v.ownBlock → (v'.ownBlock = v.ownBlock ∨ ∃ q, v'.ownBlock = some q ∧ w.heap.size ≤ q) → wpList P ops Q rest (a.put o.dst v') w') : wpList P ops Q (o :: rest) a w := by
  refine wpList_plain hgd fun K hK => ?_
  obtain ⟨v', w', hr, h2, h3, h4⟩ := append_str_at (P := P) w t u o.type e i ht hu hi hz hsize hby v n xs hown s h63 hbytes
  unfold Oper.wp execOp
  simp only [ho, resolve, invoke, builtin, Sem.run_bind, Sem.run_pure, Result.andThen_ok, List.map_toArray, List.map_cons, List.map_nil, hs, hx, hr]
  exact hK _ _ (h v' w' h2 h3 h4)
end
set_option maxHeartbeats 1000000 in
set_option maxRecDepth 100000 in
theorem ckb_any {b : Nat} {v : Value} {l : List UInt8} {w : World} (h : Bld w b v l) :
    Calls Tryd.prog 54 #[.pointer (some ⟨b, 0, none⟩)] w fun e w' => e = .returned (.tuple #[]) ∧ w'.heap[b]? = some (.cells #[.pointer (some ⟨b, 0, none⟩), v] tB (0, 0)) ∧ w'.ownsRow 0 t8 1 v l.length (Lib.byteCells l) ∧ Chg (· = b) w w' := by
  obtain ⟨j, hj, hjs⟩ := Option.map_eq_some_iff.1 info_bld
  obtain ⟨p, hp, hb, ho, hn⟩ := h
  have hown : ∀ w', Chg (· = b) w w' → w'.ownsRow 0 t8 1 v l.length (Lib.byteCells l) := fun w' hc => bt_keep ho fun g hg => hc.block g (ho.lt g hg).2 (fun e => hn (by rw [hg, e]))
  rcases hp with rfl | rfl
  · have hB : Lib.BuilderAt tB t8 0 b (.pointer none) (Lib.byteCells l) w := ⟨Nat.zero_le _, v, hb, by rw [Lib.byteCells_length]; exact ho, hn⟩
    have h0 := hB.cell0
    have hsh := hB.shape
    have hfz := hB.frozen0
    have hset : (w.setCell ⟨b, 0, none⟩ (.pointer (some ⟨b, 0, none⟩))).heap[b]? = some (.cells #[.pointer (some ⟨b, 0, none⟩), v] tB (0, 0)) := Own.put (w := w) (p := b) (T := tB) (cs := #[.pointer none, v]) hb 0 _
    have H := Lib.hid hset
    have HO := Lib.hid hown
    clear hB hset hown
    go_enter Tryd.func54, Tryd.ntmps54
    go_wp2
    rw [Lib.run_to_unsafe w ⟨b, 0, none⟩ Tryd.underlying78 Tryd.underlying107 hj (by rw [hjs]; decide) hsh (Nat.zero_lt_succ 1)]
    simp only [Result.andThen]
    rw [Oper.upon_value]
    go_wp2
    rw [run_callFunc_extern Tryd.func65 (by kernel_rfl) (by kernel_rfl) (by kernel_rfl) (e := Extern.AbiNoEscape.same) (by kernel_rfl)]
    rw [Lib.run_noEscape]
    simp only [Result.andThen]
    rw [Oper.upon_value]
    go_wp2
    rw [Lib.run_from_unsafe w ⟨b, 0, none⟩ Tryd.underlying107 Tryd.underlying78 hj hsh lies_bld]
    simp only [Result.andThen]
    rw [Oper.upon_value]
    go_wp2
    go_end0
    have hc : Chg (· = b) w (w.setCell ⟨b, 0, none⟩ (.pointer (some ⟨b, 0, none⟩))) := (Chg.refl (· = b) w).set ⟨b, 0, none⟩ (.inl rfl) _
    exact ⟨rfl, H.out, HO.out _ hc, hc⟩
  · have hB : Lib.BuilderAt tB t8 0 b (.pointer (some ⟨b, 0, none⟩)) (Lib.byteCells l) w := ⟨Nat.zero_le _, v, hb, by rw [Lib.byteCells_length]; exact ho, hn⟩
    have h0 := hB.cell0
    have H := Lib.hid hb
    have HO := Lib.hid hown
    clear hB hown hb ho
    go_enter Tryd.func54, Tryd.ntmps54
    go_wp2
    rw [Lib.run_neq_ptr_same w _ Tryd.underlying78 hj]
    go_wp2
    go_end0
    exact ⟨rfl, H.out, HO.out _ (Chg.refl _ _), Chg.refl _ _⟩
theorem byte_str (l : List UInt8) (s : ByteArray) : Lib.byteCells l ++ Lib.strCells s = Lib.byteCells (l ++ s.data.toList) := by simp [Lib.byteCells, Lib.strCells]
set_option maxHeartbeats 2000000 in
set_option maxRecDepth 100000 in
theorem bwr_any {b : Nat} {v : Value} {l : List UInt8} {w : World} (h : Bld w b v l) (s : ByteArray) (hlen : l.length + s.size ≤ 1000000000) :
    Calls Tryd.prog 42 #[.pointer (some ⟨b, 0, none⟩), .string s] w fun e w' => e = .returned (.tuple #[.int .i64 s.size, .nilIface]) ∧ ∃ v', Bld w' b v' (l ++ s.data.toList) ∧ Chg (fun q => q = b ∨ v.ownBlock = some q) w w' ∧ (v'.ownBlock = v.ownBlock ∨ ∃ q, v'.ownBlock = some q ∧ w.heap.size ≤ q) := by
  obtain ⟨i0, hi, hz0, hz1, hz2⟩ := info_parts info_byte
  have HC := Lib.hid (ckb_any h)
  have hbl := h.lt.1
  have hne : v.ownBlock ≠ some b := by obtain ⟨p, _, _, _, hn⟩ := h; exact hn
  clear h
  go_enter Tryd.func42, Tryd.ntmps42
  go_wp2_with (go_at_call 54; refine HC.out.mono ?_)
  rintro e w1 ⟨rfl, hbk, hown, hc1⟩
  have c0 : w1.cell? ⟨b, 0, none⟩ = some (.pointer (some ⟨b, 0, none⟩)) := by rw [Lib.cell_of_heap hbk]; rfl
  have c1 : w1.cell? ⟨b, 1, none⟩ = some v := by rw [Lib.cell_of_heap hbk]; rfl
  go_wp2_with (at_builtin; refine wpList_append_str_at _ rfl _ _ 66 9 rfl t8 i0 Tryd.underlying66 Tryd.underlying9 hi hz0 hz1 hz2 _ _ _ rfl hown s rfl ?c3 ?c4 ?_)
  case c3 => unfold maxLen; omega
  case c4 => omega
  intro v' w2 hown' hgrow hfr
  have hlt : b < w1.heap.size := (Array.getElem?_eq_some_iff.1 hbk).1
  have hb2 : w2.heap[b]? = some (.cells #[.pointer (some ⟨b, 0, none⟩), v] tB (0, 0)) := (hgrow.block b hlt fun e => hne e.symm).trans hbk
  have d0 : w2.cell? ⟨b, 0, none⟩ = some (.pointer (some ⟨b, 0, none⟩)) := by rw [Lib.cell_of_heap hb2]; rfl
  have d1 : w2.cell? ⟨b, 1, none⟩ = some v := by rw [Lib.cell_of_heap hb2]; rfl
  have f1 : w2.frozen? ⟨b, 1, none⟩ = false := Lib.frozen_of_heap hb2 1
  have z1 := hc1.size
  have hne' : v'.ownBlock ≠ some b := by
    rcases hfr with h | ⟨q, h, hq⟩
    · rw [h]; exact hne
    · rw [h]; intro e; injection e with e; omega
  have HF : v'.ownBlock = v.ownBlock ∨ ∃ q, v'.ownBlock = some q ∧ w.heap.size ≤ q := by
    rcases hfr with h | ⟨q, h, hq⟩
    · exact .inl h
    · exact .inr ⟨q, h, by omega⟩
  have hG : Chg (fun q => q = b ∨ v.ownBlock = some q) w w2 := (hc1.mono fun q _ hq => .inl hq).grown hgrow fun k hk => .inl (.inr hk)
  have hfin : Bld (w2.setCell ⟨b, 1, none⟩ v') b v' (l ++ s.data.toList) := by
    refine ⟨_, .inr rfl, Own.put (w := w2) (p := b) (T := tB) (cs := #[.pointer (some ⟨b, 0, none⟩), v]) hb2 1 v', ?_, hne'⟩
    rw [List.length_append, show s.data.toList.length = s.size from Array.length_toList, ← byte_str]
    refine bt_keep hown' fun g hg => ?_
    exact (((Chg.refl (· = b) w2).set ⟨b, 1, none⟩ (.inl rfl) v')).block g (hown'.lt g hg).2 (fun e => hne' (by rw [hg, e]))
  have hfin' := Lib.hid hfin
  have HF' := Lib.hid HF
  have hG' := Lib.hid hG
  clear hfin HF hG hne' hfr
  obtain ⟨ao, n', cap, rfl⟩ : ∃ ao n' cap, v' = .slice ao n' cap := by
    rcases hown'.2 with ⟨hv, _⟩ | ⟨g, cap, cur, hv, _⟩ <;> exact ⟨_, _, _, hv⟩
  go_wp2
  go_ret2
  exact ⟨rfl, _, hfin'.out, hG'.out.set _ (.inl (.inl rfl)) _, HF'.out⟩
theorem chg_freeze {S : Nat → Prop} {w w' : World} (h : Chg S w w') {p : Addr} (hp : S p.block ∨ w.heap.size ≤ p.block) (n : Nat) : Chg S w (w'.freeze p n) := by
  have hb := Lib.below_freeze (B := 0) (Below.refl 0 w') (p := p) (Nat.zero_le _) n
  refine ⟨hb.os.trans h.os, hb.tape.trans h.tape, hb.output.trans h.output, Nat.le_trans h.size hb.size, fun q hq hn => ?_⟩
  have hpq : p.block ≠ q := by
    rintro rfl
    rcases hp with hp | hp
    · exact hn hp
    · omega
  refine Eq.trans ?_ (h.block q hq hn)
  unfold World.freeze
  split
  · rfl
  · simp only [Array.getElem?_modify]
    rw [if_neg hpq]
set_option maxHeartbeats 1000000 in
theorem bstr_any {b : Nat} {v : Value} {l : List UInt8} {w : World} (h : Bld w b v l) (h0 : l ≠ []) :
    Calls Tryd.prog 44 #[.pointer (some ⟨b, 0, none⟩)] w fun e w' => e = .returned (.string ⟨l.toArray⟩) ∧ Chg (fun q => v.ownBlock = some q) w w' := by
  obtain ⟨p, hp, hbk, hown, hne⟩ := h
  have hl0 : l.length ≠ 0 := by simpa using h0
  obtain ⟨g, cap, cur, rfl, hbg, hg, hnc, hcm, hcs, htake⟩ : ∃ g cap cur, v = .slice (some ⟨g, 0, none⟩) l.length cap ∧ 0 ≤ g ∧ w.heap[g]? = some (.cells cur t8 (0, 0)) ∧ l.length ≤ cap ∧ cap ≤ maxLen ∧ cur.size = cap * 1 ∧ cur.toList.take (l.length * 1) = Lib.byteCells l := by
    rcases hown.2 with ⟨_, hz⟩ | ⟨g, cap, cur, hv, r⟩
    · exact absurd hz hl0
    · exact ⟨g, cap, cur, hv, r⟩
  have c1 : w.drew.cell? ⟨b, 1, none⟩ = some (.slice (some ⟨g, 0, none⟩) l.length cap) := by
    have : w.drew.heap[b]? = some (.cells #[p, .slice (some ⟨g, 0, none⟩) l.length cap] tB (0, 0)) := hbk
    rw [Lib.cell_of_heap this]; rfl
  have hSD : (Builtin.unsafeSliceData_ #[66] 95 #[.slice (some ⟨g, 0, none⟩) l.length cap]).run Tryd.prog w.drew = .ok (.pointer (some ⟨g, 0, none⟩)) w.drew :=
    Lib.run_unsafeSliceData_row _ _ _ _ _ _ (by omega)
  have hUS : (Builtin.unsafeString_ #[95, 3] 9 #[.pointer (some ⟨g, 0, none⟩), .int .i64 l.length]).run Tryd.prog w.drew = .ok (.string ⟨l.toArray⟩) (w.drew.freeze ⟨g, 0, none⟩ l.length) := by
    refine Lib.run_unsafeString_row w.drew 95 3 9 t8 Tryd.underlying95 (by kernel_rfl) g cur.size (by have hg' : w.drew.heap[g]? = some (.cells cur t8 (0, 0)) := hg; simp [World.shape?, hg']) l h0 (by omega) (by unfold maxLen at hcm; omega) ?_
    intro j x hx
    have := hown.cells (g := g) rfl j (.int .u8 x.toNat) (by simp [Lib.byteCells, hx])
    exact this
  have HC : Hid (∀ W, W = w.drew.freeze ⟨g, 0, none⟩ l.length → Chg (fun q => (Value.slice (some ⟨g, 0, none⟩) l.length cap).ownBlock = some q) w W) := Lib.hid fun W hW => by
    rw [hW]
    exact chg_freeze (S := fun q => (Value.slice (some ⟨g, 0, none⟩) l.length cap).ownBlock = some q) ((Chg.refl _ w).drew) (p := ⟨g, 0, none⟩) (.inl rfl) _
  clear hown hg hcs htake
  have mixed : Tryd.prog.follows Departure.mixedOrders = true := by kernel_rfl
  go_enter Tryd.func44, Tryd.ntmps44
  go_wp2
  go_region_o
  all_goals (go_wp2; go_ret; exact ⟨rfl, HC.out _ rfl⟩)
end Go.Proofs.YteepggjbgdjchaaDoor
