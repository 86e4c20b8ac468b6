import Derived.Test.YthijgebmoadgkaaGreatDoorMapM
import Derived.OrdersHeld
import Derived.KernelRfl
import Derived.Deep.RegionHeld3
import Derived.Deep.DeepCutAuto
import Derived.Lib.ItoaWalk
import Derived.Test.YthijgebmoadgkaaGreatDoorShelf
set_option linter.unusedVariables false
set_option linter.unusedSimpArgs false
namespace Go.Proofs.YthijgebmoadgkaaGreatDoor
open Go.ChangeShapes Go.WideShapes Go.ChangeAt Go.RowKit
section
section
variable {P : Program} {ops : Array Oper} {Q : Exit -> Act -> World -> Prop} {md : Region.Mode} {S : World -> Prop} {cls see : Nat -> Bool}
def zDv (md : Region.Mode) (ops : Array Oper) (see : Nat -> Bool) (j : Nat) : Bool := (List.range ops.size).any fun i => see i && match ops[j]? with
 | some oj => !oj.after.any fun e => Region.binds md e && e.on == i
 | none => false
theorem zLv {i j : Nat} {oi oj : Oper} (hi : ops[i]? = some oi) (hj : ops[j]? = some oj) (hc : see i = true) (h : ∀ e ∈ oj.after, Region.binds md e = true -> e.on ≠ i) : zDv md ops see j = true := by
 refine List.any_eq_true.2 ⟨i, List.mem_range.2 (Array.getElem?_eq_some_iff.1 hi).1, ?_⟩;simp only [hc, hj, Bool.true_and, Bool.not_eq_true'];refine Bool.eq_false_iff.2 fun h' => ?_
 obtain ⟨e, he, he'⟩ := Array.any_eq_true'.1 h';simp only [Bool.and_eq_true, beq_iff_eq] at he';exact h e he he'.1 he'.2
def Xz (P : Program) (md : Region.Mode) (ops : Array Oper) (Q : Exit -> Act -> World -> Prop) (S : World -> Prop) (cls see : Nat -> Bool) : Nat -> Array Bool -> Act -> World -> Prop
 | 0, listed, a, w => Region.ready md ops listed = [] /\ Q .normal a w
 | fuel + 1, listed, a, w =>
   (Region.ready md ops listed = [] -> Q .normal a w) /\
   ∀ i ∈ Region.ready md ops listed, wpOp P ops Q i (fun a' w' => (cls i = true -> w' = w) /\ (cls i = false -> zDv md ops see i = true -> S w') /\ Xz P md ops Q S cls see fuel (listed.setIfInBounds i true) a' w') a w
theorem Xt : ∀ (fuel : Nat) (listed : Array Bool) (a : Act) (w : World), Xz P md ops Q S cls see fuel listed a w -> wpAny P md ops Q fuel listed a w
 | 0, _, _, _, h => h
 | fuel + 1, _, _, _, h => ⟨h.1, fun i hi => wpOp_mono (fun a' w' h' => Xt fuel _ a' w' h'.2.2) (h.2 i hi)⟩
theorem zB4 {i : Nat} {oi : Oper} {v : Value} (hi : ops[i]? = some oi) (hc : cls i = true) (hsel : ∀ (j : Nat) (o : Oper) cs b, ops[j]? = some o -> o.op ≠ .select cs b)
   (hQ : ∀ c a w, Q (.panic c) (a.put oi.dst v) w -> Q (.panic c) a w) :
   ∀ (fuel : Nat) (listed : Array Bool) (a : Act) (w : World),
     (∀ j oj, ops[j]? = some oj -> j ≠ i -> listed.getD j true = false -> (∀ e ∈ oj.after, Region.binds md e = true -> e.on ≠ i) -> oi.apart ops oj = true) ->
     i ∈ Region.ready md ops listed -> YieldsIf P ops (fun w => see i = true -> S w) oi v a -> (see i = true -> S w) ->
     Xz P md ops Q S cls see fuel (listed.setIfInBounds i true) (a.put oi.dst v) w -> Xz P md ops Q S cls see (fuel + 1) listed a w := by
 intro fuel;induction fuel with
 | zero =>
   intro listed a w _ hr hy hS H;refine ⟨fun h => (by rw [h] at hr; cases hr), fun j hj => ?_⟩;by_cases hji : j = i
   · subst hji; exact hy.wpOp hi hS ⟨fun _ => rfl, fun h => (by rw [hc] at h; cases h), H⟩
   · have := ready_mono hj hji;rw [H.1] at this;cases this
 | succ fuel ih =>
   intro listed a w hfree hr hy hS H;refine ⟨fun h => (by rw [h] at hr; cases hr), fun j hj => ?_⟩;by_cases hji : j = i
   · subst hji; exact hy.wpOp hi hS ⟨fun _ => rfl, fun h => (by rw [hc] at h; cases h), H⟩
   · have h1 := H.2 j (ready_mono hj hji);obtain ⟨hjun, oj, hoj, hall⟩ := mem_ready.1 hj;have h0 := (mem_ready.1 hr).1;have hnot : ∀ e ∈ oj.after, Region.binds md e = true -> e.on ≠ i := fun e he hb heq => by
       have h1 := hall e he hb;rw [heq] at h1;rcases Nat.lt_or_ge i listed.size with h' | h'
       · simp [h'] at h0 h1; rw [h0] at h1; cases h1
       · simp [Array.getElem?_eq_none h'] at h1
     have h2 := wpOp_putIf hoj (hfree j oj hoj hji hjun hnot) (fun cs b => hsel i oi cs b hi) (fun cs b => hsel j oj cs b hoj) hQ hy h1;have hfree' : ∀ k ok, ops[k]? = some ok -> k ≠ i -> (listed.setIfInBounds j true).getD k true = false ->
         (∀ e ∈ ok.after, Region.binds md e = true -> e.on ≠ i) -> oi.apart ops ok = true := fun k ok hk hki hun hno => by
       refine hfree k ok hk hki ?_ hno;by_cases hjk : j = k
       · subst hjk; exact hjun
       · rw [getD_set_ne true hjk] at hun; exact hun
     refine wpOp_mono (fun a' w' h3 => ?_) h2;obtain ⟨hy', hw', hS', h4⟩ := h3;have hSw : see i = true -> S w' := fun hs => by
       by_cases hcj : cls j = true
       · rw [hw' hcj]; exact hS hs
       · exact hS' (by simpa using hcj) (zLv hi hoj hs hnot)
     refine ⟨hw', hS', ih (listed.setIfInBounds j true) a' w' hfree' (ready_mono hr (Ne.symm hji)) hy' hSw ?_⟩;rw [Array.setIfInBounds_comm _ _ hji];exact h4
def vT (P : Program) (md : Region.Mode) (ops : Array Oper) (Q : Exit -> Act -> World -> Prop) (S : World -> Prop) (cls see : Nat -> Bool) : List (Nat × Oper) -> Act -> World -> Prop
 | [], a, w => Q .normal a w
 | (i, o) :: l, a, w =>
   if cls i then ∃ v, YieldsIf P ops (fun w => see i = true -> S w) o v a /\ vT P md ops Q S cls see l (a.put o.dst v) w
   else wpOp P ops Q i (fun a' w' => (zDv md ops see i = true -> S w') /\ (l.any (fun p => see p.1) = true -> S w') /\ vT P md ops Q S cls see l a' w') a w
def zU (ord : List Nat) (l : List Oper) : List (Nat × Oper) := ord.filterMap fun i => (l[i]?).map fun o => (i, o)
theorem zGy {ord : List Nat} {l : List Oper} : ∀ p ∈ zU ord l, l.toArray[p.1]? = some p.2 := by
 intro p hp;obtain ⟨i, _, h⟩ := List.mem_filterMap.1 hp;cases hl : l[i]? with
 | none => simp [hl] at h
 | some o => simp [hl] at h; subst h; simpa using hl
def zCv (md : Region.Mode) (ops : Array Oper) (cls : Nat -> Bool) : List Nat -> Array Bool -> Bool
 | [], listed => (Region.ready md ops listed).isEmpty
 | i :: l, listed => (if cls i then (Region.ready md ops listed).contains i && Region.free md ops listed i else Region.ready md ops listed == [i]) && zCv md ops cls l (listed.setIfInBounds i true)
theorem qX (hsel : Region.noSelect ops = true) (hQ : ∀ c a w, ¬ Q (.panic c) a w) : ∀ (l : List (Nat × Oper)) (listed : Array Bool) (a : Act) (w : World), (∀ p ∈ l, ops[p.1]? = some p.2) -> zCv md ops cls (l.map (·.1)) listed = true -> (l.any (fun p => see p.1) = true -> S w) ->
   vT P md ops Q S cls see l a w -> Xz P md ops Q S cls see l.length listed a w
 | [], listed, a, w, _, hB, hS, h => ⟨by simpa [zCv] using hB, h⟩
 | (i, o) :: l, listed, a, w, hp, hB, hS, h => by
   simp only [zCv, List.map_cons, Bool.and_eq_true] at hB;obtain ⟨hB, hl⟩ := hB;have ho : ops[i]? = some o := hp (i, o) (by simp);have hp' : ∀ p ∈ l, ops[p.1]? = some p.2 := fun p h => hp p (by simp [h])
   unfold vT at h;by_cases hc : cls i = true
   · simp only [hc, if_true] at h hB;obtain ⟨v, hy, h⟩ := h;simp only [Bool.and_eq_true] at hB;exact zB4 ho hc (Region.noSelect_spec hsel) (fun c a w h => absurd h (hQ _ _ _)) l.length listed a w (Region.free_spec ho hB.2) (by simpa using hB.1) hy (fun hs => hS (by simp [hs]))
       (qX hsel hQ l _ _ _ hp' hl (fun hs => hS (by simp only [List.any_cons, hs, Bool.or_true])) h)
   · simp only [hc, Bool.false_eq_true, if_false] at h hB;have hr : Region.ready md ops listed = [i] := by simpa using hB
     refine ⟨fun h0 => (by rw [hr] at h0; cases h0), fun j hj => ?_⟩;rw [hr] at hj;obtain rfl : j = i := by simpa using hj
     exact wpOp_mono (fun a' w' h' => ⟨fun h => absurd h hc, fun _ => h'.1, qX hsel hQ l _ _ _ hp' hl h'.2.1 h'.2.2⟩) h
theorem zA {id : Nat} {l : List Oper} {a : Act} {w : World} (S : World -> Prop) (C D : List Nat) (ord : List Nat) {L : List (Nat × Oper)} (hm : P.follows .mixedOrders = true) (hs : Region.noSelect l.toArray = true) (hn : ord.length = l.length)
   (hB : zCv .any l.toArray (fun i => C.contains i) ord (Array.replicate l.length false) = true) (hi : (zU ord l).map (·.1) = ord) (hS : S w.drew) (hL : zU ord l = L)
   (h : vT P .any l.toArray (NoPanic Q) S (fun i => C.contains i) (fun i => D.contains i) L a w.drew) : (Code.region id l.toArray true).wp P Q a w := by
 subst hL;refine wp_region_noPanic (wp_region_any hm (Xt _ _ _ _ (S := S) (cls := fun i => C.contains i) (see := fun i => D.contains i) ?_));have := qX (P := P) (Q := NoPanic Q) hs (fun c a w h => h) (zU ord l) (Array.replicate l.length false) a w.drew zGy (by rw [hi]; exact hB) (fun _ => hS) h;have e : (zU ord l).length = l.length := by rw [<- hn, <- hi, List.length_map, hi]
 rw [e] at this;simpa using this
theorem fU {i : Nat} {l : List (Nat × Oper)} {a : Act} {w : World} {o : Oper} {v : Value} (hc : cls i = true) (hg : o.guard = none) (hv : ∀ w, (see i = true -> S w) -> (execOp a.eval o).run P w = .ok (.value v) w)
   (h : vT P md ops Q S cls see l (a.put o.dst v) w) : vT P md ops Q S cls see ((i, o) :: l) a w := by
 unfold vT;simp only [hc, if_true];exact ⟨v, .inl ⟨by simp [Region.wanted, hg], hv⟩, h⟩
theorem zC {i : Nat} {l : List (Nat × Oper)} {a : Act} {w : World} {o : Oper} {v : Value} (hc : cls i = true) (hg : Region.wanted o (yielded ops a.tmps) = true) (hv : ∀ w, (see i = true -> S w) -> (execOp a.eval o).run P w = .ok (.value v) w)
   (h : vT P md ops Q S cls see l (a.put o.dst v) w) : vT P md ops Q S cls see ((i, o) :: l) a w := by
 unfold vT;simp only [hc, if_true];exact ⟨v, .inl ⟨hg, hv⟩, h⟩
theorem zO {i : Nat} {l : List (Nat × Oper)} {a : Act} {w : World} {o : Oper} (hc : cls i = true) (hg : Region.wanted o (yielded ops a.tmps) = false)
   (h : vT P md ops Q S cls see l (a.put o.dst undef) w) : vT P md ops Q S cls see ((i, o) :: l) a w := by
 unfold vT;simp only [hc, if_true];exact ⟨undef, .inr ⟨hg, rfl⟩, h⟩
def zN6 (K : Act -> World -> Prop) (Q : Exit -> Act -> World -> Prop) : Exit -> Act -> World -> Prop
 | .normal, a, w => K a w
 | e, a, w => Q e a w
theorem zIu {i : Nat} {l : List (Nat × Oper)} {a : Act} {w : World} {o : Oper} (ho : ops[i]? = some o) (hc : cls i = false)
   (h : wpList P ops (zN6 (fun a' w' => (zDv md ops see i = true -> S w') /\ (l.any (fun p => see p.1) = true -> S w') /\ vT P md ops Q S cls see l a' w') Q) [o] a w) : vT P md ops Q S cls see ((i, o) :: l) a w := by
 unfold vT;simp only [hc, Bool.false_eq_true, if_false];unfold wpOp;simp only [ho];unfold wpList at h;split
 · rename_i hw
   simp only [hw, if_true] at h;rcases h with h | ⟨h1, a2, w2, h2⟩
   · refine .inl ?_;unfold Oper.wp at h ⊢;generalize (execOp a.eval o).run P w = r at h ⊢
     cases r with
     | ok n w' =>
       cases n <;> (try simp only [Oper.upon] at h ⊢)
       case enter f args => exact Calls.mono h fun e w'' he => by cases e <;> exact he
       case row row args => exact Rows.mono h fun u w'' he => he
       all_goals exact h
     | halt x w' =>
       cases x <;> exact h
   · exact .inr ⟨h1, a2, w2, h2⟩
 · rename_i hw
   rw [if_neg hw] at h;exact h
theorem zQ {i : Nat} {l : List (Nat × Oper)} {a : Act} {w : World} {o : Oper} (ho : ops[i]? = some o) (hc : cls i = false)
   (h : ∀ K : Act -> World -> Prop, (∀ a' w', S w' -> vT P md ops Q S cls see l a' w' -> K a' w') -> wpList P ops (zN6 K Q) [o] a w) : vT P md ops Q S cls see ((i, o) :: l) a w :=
 zIu ho hc (h _ fun a' w' hS h => ⟨fun _ => hS, fun _ => hS, h⟩)
theorem gI {i : Nat} {l : List (Nat × Oper)} {a : Act} {w : World} {o : Oper} (ho : ops[i]? = some o) (hc : cls i = false) (hp : zDv md ops see i = false) (hq : l.any (fun p => see p.1) = false)
   (h : ∀ K : Act -> World -> Prop, (∀ a' w', vT P md ops Q S cls see l a' w' -> K a' w') -> wpList P ops (zN6 K Q) [o] a w) : vT P md ops Q S cls see ((i, o) :: l) a w :=
 zIu ho hc (h _ fun a' w' h => ⟨fun e => (by rw [hp] at e; cases e), fun e => (by rw [hq] at e; cases e), h⟩)
theorem zR {a : Act} {w : World} (h : Q .normal a w) : vT P md ops (NoPanic Q) S cls see [] a w := h
end
theorem vH {P : Program} {f : Nat} {fn : Func} (hf : P.funcs[f]? = some fn) (hn : (fn.name == "runtime.NumGoroutine") = false) (hb : fn.body.isNone = false) (args : Array Value) (w : World) : (callFunc f args).run P w = .ok (.enter f args) w := by
 simp only [callFunc];have h1 : ¬ fn.name = "runtime.NumGoroutine" := by simpa using hn
 have h2 : ¬ fn.body = none := by intro e; rw [e] at hb; cases hb
 simp [go_sem, hf, h1, h2]
end
section
structure St where
 sure : List UInt8
 wr : List (Nat × ByteArray)
 fuse : Int
 down : Bool
def xR (l : List (Nat × ByteArray)) (i : Int) : Option (Nat × ByteArray) := l.reverse.find? fun x => (x.1 : Int) == i
def wcell (x : Nat × ByteArray) : Array Value := #[.int .i64 (x.1 : Int), .string x.2]
def Yu (l : List (Nat × ByteArray)) : List Value := l.flatMap fun x => [.int .i64 (x.1 : Int), .string x.2]
theorem zAp : ∀ (l : List (Nat × ByteArray)) (j : Nat) (h : j < l.length), (Yu l)[j * 2]? = some (.int .i64 ((l[j]'h).1 : Int)) /\ (Yu l)[j * 2 + 1]? = some (.string (l[j]'h).2)
 | x :: l, 0, _ => ⟨rfl, rfl⟩
 | x :: l, j + 1, h => by
   have := zAp l j (by simpa using h);have e1 : (j + 1) * 2 = j * 2 + 1 + 1 := by omega
   rw [e1];exact this
structure St.Ok (n : Nat) (s : St) : Prop where
 pos : 1 <= n
 max : n <= 65536
 len : s.sure.length = n * 64
 wr : ∀ x ∈ s.wr, x.1 < n /\ x.2.size = 64
 few : s.wr.length <= 1000000
 fuse : (Lit.int .i64 s.fuse).wf = true
structure zI (w : World) (d sb mb sc : Nat) (wv : Value) (n : Nat) (s : St) : Prop where
 own : Own w d 167 #[.slice (some ⟨sb, 0, none⟩) (n * 64) sc, wv, .map (some mb), .int .i64 s.fuse, .bool s.down]
 cap : n * 64 <= sc
 sure : xB w sb s.sure
 wrs : w.ownsRow 0 271 2 wv s.wr.length (Yu s.wr)
 map : xU w mb .i64 (fun i => (xR s.wr i).map fun x => .agg (wcell x))
 ne1 : sb ≠ d
 ne2 : ∀ g, wv.ownBlock = some g -> g ≠ d /\ g ≠ sb
 ok : s.Ok n
def fp (d sb mb : Nat) (wv : Value) : Nat -> Prop := fun q => q = d \/ q = sb \/ q = mb \/ wv.ownBlock = some q
theorem zI.in_ {w : World} {d sb mb sc : Nat} {wv : Value} {n : Nat} {s : St} (h : zI w d sb mb sc wv n s) {q : Nat} (hq : fp d sb mb wv q) : q < w.heap.size := by
 rcases hq with rfl | rfl | rfl | hq
 · exact h.own.in_
 · exact h.sure.in_ (by have := h.ok.pos; rw [h.ok.len]; omega)
 · exact h.map.in_
 · exact (h.wrs.lt q hq).2
theorem jP {w w' : World} {e : TypeId} {size : Nat} {v : Value} {n : Nat} {xs : List Value} (h : w.ownsRow 0 e size v n xs) (hk : ∀ g, v.ownBlock = some g -> w'.heap[g]? = w.heap[g]?) : w'.ownsRow 0 e size v n xs := by
 refine ⟨h.1, ?_⟩;rcases h.2 with h2 | ⟨g, cap, cur, rfl, r1, r2, r3⟩
 · exact .inl h2
 · exact .inr ⟨g, cap, cur, rfl, r1, (hk g rfl).trans r2, r3⟩
theorem zI.keep {w w' : World} {d sb mb sc : Nat} {wv : Value} {n : Nat} {s : St} (h : zI w d sb mb sc wv n s) {S : Nat -> Prop} (hc : Chg S w w') (hS : ∀ q, fp d sb mb wv q -> ¬ S q) : zI w' d sb mb sc wv n s := by
 have k : ∀ q, fp d sb mb wv q -> w'.heap[q]? = w.heap[q]? := fun q hq => hc.block q (h.in_ hq) (hS q hq)
 exact ⟨(k d (.inl rfl)).trans h.own, h.cap, h.sure.keep (k sb (.inr (.inl rfl))), jP h.wrs fun g hg => k g (.inr (.inr (.inr hg))), h.map.keep (k mb (.inr (.inr (.inl rfl)))), h.ne1, h.ne2, h.ok⟩
theorem zI.below {w w' : World} {d sb mb sc : Nat} {wv : Value} {n : Nat} {s : St} (h : zI w d sb mb sc wv n s) (hb : Below w.heap.size w w') : zI w' d sb mb sc wv n s :=
 h.keep (Chg.of (S := fun _ => False) hb) fun _ _ => id
theorem zI.slice {w : World} {d sb mb sc : Nat} {wv : Value} {n : Nat} {s : St} (h : zI w d sb mb sc wv n s) : ∃ a c, wv = .slice a s.wr.length c /\ s.wr.length <= c /\ c <= maxLen := by
 rcases h.wrs.2 with ⟨rfl, h2⟩ | ⟨g, cap, cur, rfl, _, _, h1, h2, _⟩
 · exact ⟨none, 0, by rw [h2], by omega, by unfold maxLen; omega⟩
 · exact ⟨_, _, rfl, h1, h2⟩
theorem zCh (x : Int) (w : World) (hx : (Lit.int .i64 x).wf = true) : Calls Tryz.prog 66 #[.int .i64 x] w fun e w' => e = .returned (.bool (decide (1 <= x) && decide (x <= 65536))) /\ w = w' := by
 by_cases h1 : 1 <= x
 · go_enter Tryz.func66, Tryz.ntmps66;go_wp2;go_ret;exact ⟨xP (by simp [h1]), rfl⟩
 · go_enter Tryz.func66, Tryz.ntmps66;go_wp2;go_ret;exact ⟨xP (by simp; omega), rfl⟩
section
variable {w : World} {d sb mb sc : Nat} {wv : Value} {n : Nat} {s : St}
theorem Vy (h : zI w d sb mb sc wv n s) : Calls Tryz.prog 137 #[.pointer (some ⟨d, 0, none⟩)] w fun e w' => e = .returned (.int .i64 n) /\ w = w' := by
 have hp := h.ok.pos;have hm := h.ok.max;obtain ⟨o1, o2, o3⟩ := h.own.at_;clear h;go_enter Tryz.func137, Tryz.ntmps137;go_wp2;go_ret;exact ⟨jK (by omega), rfl⟩
theorem fO (h : zI w d sb mb sc wv n s) : Calls Tryz.prog 76 #[.pointer (some ⟨d, 0, none⟩)] w fun e w' => e = .returned (.bool s.down) /\ w = w' := by
 obtain ⟨o1, o2, o3⟩ := h.own.at_;generalize s.down = dn at *
 clear h;go_enter Tryz.func76, Tryz.ntmps76;go_wp2;go_ret;exact ⟨rfl, rfl⟩
theorem zF7 (h : zI w d sb mb sc wv n s) (i : Int) : Calls Tryz.prog 227 #[.pointer (some ⟨d, 0, none⟩), .int .i64 i] w fun e w' => e = .returned (.bool (decide (0 <= i) && decide (i < n))) /\ w = w' := by
 have H := Lh (Vy h);clear h;by_cases h1 : 0 <= i
 · go_enter Tryz.func227, Tryz.ntmps227;go_wp2_with (go_at_call 137; refine H.out.mono ?_; rintro e w' ⟨rfl, rfl⟩)
   go_ret;exact ⟨xP (by simp [h1]), rfl⟩
 · go_enter Tryz.func227, Tryz.ntmps227;go_wp2_with (go_at_call 137; refine H.out.mono ?_; rintro e w' ⟨rfl, rfl⟩)
   go_ret;exact ⟨xP (by simp; omega), rfl⟩
def zAs (L : List UInt8) : ByteArray := ⟨L.toArray⟩
theorem Xr (h : zI w d sb mb sc wv n s) (i : Nat) (hi : i < n) : Calls Tryz.prog 184 #[.pointer (some ⟨d, 0, none⟩), .int .i64 i] w fun e w' => e = .returned (.slice (some ⟨sb, i * 64, none⟩) 64 (sc - i * 64)) /\ w = w' := by
 have hp := h.ok.pos;have hm := h.ok.max;have hc := h.cap;obtain ⟨o1, o2, o3⟩ := h.own.at_;clear h;go_enter Tryz.func184, Tryz.ntmps184;go_wp2;go_ret;refine ⟨?_, rfl⟩;show Ending.returned (Value.slice (some ⟨sb, i * 64, none⟩) ((i + 1) * 64 - i * 64) (sc - i * 64)) = _
 rw [show (i + 1) * 64 - i * 64 = 64 by omega]
theorem zJj (x : Int) (w : World) : Calls Tryz.prog 100 #[.int .i64 x] w fun e w' => e = .returned (.int .i64 (min (x.toNat) 64 : Nat)) /\ w = w' := by
 by_cases h1 : x < 0
 · go_enter Tryz.func100, Tryz.ntmps100;go_wp2;go_ret;exact ⟨jK (by omega), rfl⟩
 · by_cases h2 : 64 < x
   · go_enter Tryz.func100, Tryz.ntmps100;go_wp2;go_ret;exact ⟨jK (by omega), rfl⟩
   · go_enter Tryz.func100, Tryz.ntmps100;go_wp2;go_ret;exact ⟨jK (by omega), rfl⟩
end
end
section
theorem zJc {x : Int} (h : (Lit.int .i64 x).wf = true) : -9223372036854775808 <= x /\ x <= 9223372036854775807 := by
 simp [Lit.wf, IntKind.min, IntKind.max, IntKind.signed, IntKind.bits] at h;omega
theorem gM {x : Int} (h1 : -9223372036854775808 <= x) (h2 : x <= 9223372036854775807) : (Lit.int .i64 x).wf = true := by
 simp [Lit.wf, IntKind.min, IntKind.max, IntKind.signed, IntKind.bits];omega
theorem yT (w : World) (d k : Nat) (v : Value) : Chg (· = d) w (w.setCell ⟨d, k, none⟩ v) := (Chg.refl (· = d) w).set ⟨d, k, none⟩ (.inl rfl) v
section
variable {w : World} {d sb mb sc : Nat} {wv : Value} {n : Nat} {s : St}
theorem zI.ne3 (h : zI w d sb mb sc wv n s) : mb ≠ d /\ mb ≠ sb /\ ∀ g, wv.ownBlock = some g -> g ≠ mb := by
 refine ⟨h.map.ne h.own, h.map.ne_cell (h.sure.cell 0 (by have := h.ok.pos; rw [h.ok.len]; omega)), fun g hg e => ?_⟩;subst e;obtain ⟨es, ck, hb, _⟩ := h.map;rcases h.wrs.2 with ⟨rfl, _⟩ | ⟨g', cap, cur, rfl, _, hc, _⟩
 · cases hg
 · obtain rfl : g' = g := by simpa [Value.ownBlock] using hg
   rw [hc] at hb; cases hb
theorem zI.fld (h : zI w d sb mb sc wv n s) {w' : World} {f : Int} {b : Bool} (hf : (Lit.int .i64 f).wf = true) (hc : Chg (· = d) w w')
   (ho : Own w' d 167 #[.slice (some ⟨sb, 0, none⟩) (n * 64) sc, wv, .map (some mb), .int .i64 f, .bool b]) : zI w' d sb mb sc wv n { s with fuse := f, down := b } := by
 obtain ⟨m1, m2, m3⟩ := h.ne3;have k : ∀ q, q ≠ d -> q < w.heap.size -> w'.heap[q]? = w.heap[q]? := fun q hq hl => hc.block q hl hq
 exact ⟨ho, h.cap, h.sure.keep (k sb h.ne1 (h.in_ (.inr (.inl rfl)))), jP h.wrs fun g hg => k g (h.ne2 g hg).1 (h.in_ (.inr (.inr (.inr hg)))), h.map.keep (k mb m1 (h.in_ (.inr (.inr (.inl rfl))))), h.ne1, h.ne2, ⟨h.ok.pos, h.ok.max, h.ok.len, h.ok.wr, h.ok.few, hf⟩⟩
def vC (s : St) : Bool × St := if s.fuse = 0 then (false, { s with down := true }) else if 0 < s.fuse then (!s.down, { s with fuse := s.fuse - 1 }) else (!s.down, s)
theorem Zy (h : zI w d sb mb sc wv n s) : Calls Tryz.prog 228 #[.pointer (some ⟨d, 0, none⟩)] w fun e w' => e = .returned (.bool (vC s).1) /\ zI w' d sb mb sc wv n (vC s).2 /\ Chg (· = d) w w' /\ w'.heap.size = w.heap.size := by
 obtain ⟨o1, o2, o3⟩ := h.own.at_;have hwf := h.ok.fuse;obtain ⟨hr1, hr2⟩ := zJc hwf;have H := Lh h;clear h hwf;by_cases h0 : s.fuse = 0
 · have E := Lh (show vC s = (false, { s with down := true }) by simp [vC, h0]);have F := Lh h0;rw [h0] at o1;clear h0 hr1 hr2;generalize hdn : s.down = dn at o1
   clear hdn;go_enter Tryz.func228, Tryz.ntmps228;go_wp2;go_ret;rw [E.out];refine ⟨rfl, H.out.fld H.out.ok.fuse (yT _ _ _ _) (Own.put H.out.own 4 _), ?_, ?_⟩
   · exact yT _ _ _ _
   · simp [World.setCell]
 · by_cases h1 : 0 < s.fuse
   · have E := Lh (show vC s = (!s.down, { s with fuse := s.fuse - 1 }) by simp [vC, h0, h1]);have t0 : (s.fuse == 0) = false := by simpa using h0
     have W := gM (x := s.fuse - 1) (by omega) (by omega);have W := Lh W;clear h0;obtain ⟨dn, hdn⟩ : ∃ dn, dn = s.down := ⟨_, rfl⟩
     rw [<- hdn] at o1;have D := Lh hdn;clear hdn;go_enter Tryz.func228, Tryz.ntmps228;go_wp2;go_ret;rw [E.out, <- D.out];refine ⟨rfl, H.out.fld (f := s.fuse - 1) (b := dn) W.out (yT _ _ _ _) (D.out ▸ Own.put H.out.own 3 _), ?_, ?_⟩
     · exact yT _ _ _ _
     · simp [World.setCell]
   · have E := Lh (show vC s = (!s.down, s) by simp [vC, h0, h1]);have t0 : (s.fuse == 0) = false := by simpa using h0
     clear h0;generalize hdn : s.down = dn at o1
     have D := Lh hdn;clear hdn;go_enter Tryz.func228, Tryz.ntmps228;go_wp2;go_ret;rw [E.out, D.out];exact ⟨rfl, H.out, Chg.refl _ _, rfl⟩
theorem zIx (h : zI w d sb mb sc wv n s) (f : Int) (hf : (Lit.int .i64 f).wf = true) : Calls Tryz.prog 28 #[.pointer (some ⟨d, 0, none⟩), .int .i64 f] w fun e w' => e = .returned (.tuple #[]) /\ zI w' d sb mb sc wv n { s with fuse := f } /\ Chg (· = d) w w' /\ w'.heap.size = w.heap.size := by
 obtain ⟨o1, o2, o3⟩ := h.own.at_;have H := Lh h;have F := Lh hf;clear h hf;obtain ⟨dn, hdn⟩ : ∃ dn, dn = s.down := ⟨_, rfl⟩
 rw [<- hdn] at o1;have D := Lh hdn;clear hdn;go_enter Tryz.func28, Tryz.ntmps28;go_wp2;go_end0
 refine ⟨rfl, ?_, ?_, ?_⟩
 · have := H.out.fld (f := f) (b := s.down) F.out (yT _ _ _ _) (Own.put H.out.own 3 _);exact this
 · exact yT _ _ _ _
 · simp [World.setCell]
end
end
end Go.Proofs.YthijgebmoadgkaaGreatDoor
