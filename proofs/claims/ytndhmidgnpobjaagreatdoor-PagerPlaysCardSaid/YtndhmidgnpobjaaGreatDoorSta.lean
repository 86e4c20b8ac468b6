import Derived.Test.YtndhmidgnpobjaaGreatDoorCrcB
import Derived.Below
import Derived.Laws.Rows
import Derived.Laws.OwnMore
import Derived.Deep.Draws
import Derived.Test.YtndhmidgnpobjaaGreatDoorPagA
import Derived.BigQuiet
import Derived.Deep.QuietTactic
import Derived.Laws.IdiomStrings
import Derived.Test.YtndhmidgnpobjaaGreatDoorShelf
import Derived.Lib.Builder
import Derived.KernelRfl
import Derived.Laws.Entries
import Derived.WalkLawsBesides
import Derived.Deep.OwnRows
import Derived.MapKept
import Derived.Maps.AppendAt
import Derived.Laws.CopyOwn
import Derived.Maps.OwnOps
import Derived.Maps.OwnSet
set_option linter.unusedVariables false
set_option linter.unusedSimpArgs false
section
namespace Go.Proofs.YtndhmidgnpobjaaGreatDoor
open Go.ChangeShapes Go.WideShapes Go.ChangeAt Go.RowKit
def Own (w : World) (p : Nat) (T : TypeId) (cs : Array Value) : Prop := w.heap[p]? = some (.cells cs T (0, 0))
theorem Own.in_ {w : World} {p : Nat} {T : TypeId} {cs : Array Value} (h : Own w p T cs) : p < w.heap.size := by
 by_cases hp : p < w.heap.size
 · exact hp
 · unfold Own at h;rw [Array.getElem?_eq_none (by omega)] at h;cases h
theorem Own.made (w : World) (T : TypeId) (cs : Array Value) : Own (w.alloc (.cells cs T)) w.heap.size T cs := by
 unfold Own World.alloc;simp
theorem Own.more {w : World} {p : Nat} {T : TypeId} {cs : Array Value} (h : Own w p T cs) (o : Obj) : Own (w.alloc o) p T cs := by
 unfold Own;rw [Below.heap_alloc w o p h.in_];exact h
theorem Own.keep {w w' : World} {p : Nat} {T : TypeId} {cs : Array Value} (h : Own w p T cs) (hb : Below w.heap.size w w') : Own w' p T cs := by
 unfold Own;rw [hb.block p h.in_];exact h
theorem Own.drawn {w : World} {p : Nat} {T : TypeId} {cs : Array Value} (h : Own w p T cs) : Own w.drew p T cs := h
theorem Own.drawnN {w : World} {p : Nat} {T : TypeId} {cs : Array Value} (h : Own w p T cs) (n : Nat) : Own (w.drewN n) p T cs := h
theorem Own.put {w : World} {p : Nat} {T : TypeId} {cs : Array Value} (h : Own w p T cs) (i : Nat) (v : Value) : Own (w.setCell ⟨p, i, none⟩ v) p T (cs.setIfInBounds i v) := by
 unfold Own at h ⊢;simp [World.setCell, Array.getElem?_modify, h]
theorem Own.apart {w : World} {p : Nat} {T : TypeId} {cs : Array Value} (h : Own w p T cs) {q : Nat} (hq : p ≠ q) (i : Nat) (v : Value) : Own (w.setCell ⟨q, i, none⟩ v) p T cs := by
 unfold Own;rw [Below.heap_setCell w ⟨q, i, none⟩ v p hq];exact h
theorem Own.made_at {w : World} {p : Nat} {T : TypeId} {cs : Array Value} (h : p = w.heap.size) : Own (w.alloc (.cells cs T)) p T cs := h ▸ Own.made w T cs
theorem Own.as {w : World} {p : Nat} {T : TypeId} {cs cs' : Array Value} (h : Own w p T cs) (e : cs = cs') : Own w p T cs' := e ▸ h
theorem Own.at_ {w : World} {p : Nat} {T : TypeId} {cs : Array Value} (h : Own w p T cs) : (∀ i, w.cell? ⟨p, i, none⟩ = cs[i]?) /\ (∀ i, w.frozen? ⟨p, i, none⟩ = false) /\ p < w.heap.size := by
 refine ⟨fun i => ?_, fun i => ?_, h.in_⟩
 · unfold Own at h; simp [World.cell?, h]
 · unfold Own at h; simp [World.frozen?, h]
theorem keep {w w' : World} (hb : Below w.heap.size w w') {p q : Nat} {v : Value} (h : w.cell? ⟨p, q, none⟩ = some v) : w'.cell? ⟨p, q, none⟩ = some v :=
 (hb.cell (p := ⟨p, q, none⟩) (Qq h)).trans h
theorem zJ {B : Nat} {a w : World} (h : Below B a w) (q : Nat) : Below B a (w.drewN q) := ⟨h.os, h.tape, h.output, h.size, h.block⟩
theorem then_ {B : Nat} {a w w' : World} (h : Below B a w) (hb : Below w.heap.size w w') (hB : B <= w.heap.size) : Below B a w' := h.trans (hb.mono hB)
end Go.Proofs.YtndhmidgnpobjaaGreatDoor
end
section
namespace Go.Proofs.YtndhmidgnpobjaaGreatDoor
open Go.ChangeShapes Go.WideShapes Go.ChangeAt Go.RowKit
theorem zK7 (n j : Nat) : n / 2 ^ (8 * j) / 256 = n / 2 ^ (8 * (j + 1)) := by
 rw [Nat.div_div_eq_div_mul, show 8 * (j + 1) = 8 * j + 8 by omega, Nat.pow_add]
theorem zI4 (n j : Nat) : zU n (j + 1) = zU n j ++ [xJ n j] := by simp [zU, List.range_succ]
theorem fR (n k : Nat) (w : World) (hn : n <= 18446744073709551615) (hk : k <= 8) :
   Calls Tryz.prog 96 #[.int .u64 n, .int .i64 k] w fun e w' => e = .returned (.string ⟨(zU n k).toArray⟩) /\ Below w.heap.size w w' := by
 go_enter Tryz.func96, Tryz.ntmps96;go_wp2;go_loopw [0, 5, 6] (fun x s i wr => ∃ j X : Nat, j <= k /\ i = .int .i64 j /\ s = .string ⟨(zU n j).toArray⟩ /\ x = .int .u64 X /\ X = n / 2 ^ (8 * j) /\ Below w.heap.size w wr) (fun _ _ i _ => k - (intOf i).toNat)
 case atStart => exact ⟨0, n, by omega, rfl, rfl, rfl, by simp, Below.refl _ _⟩
 case round =>
   obtain ⟨j, X, hj, rfl, rfl, rfl, hX, hg⟩ := hrel;have hXn : X <= 18446744073709551615 := by rw [hX]; exact Nat.le_trans (Nat.div_le_self _ _) hn
   have HX := Lh hX;clear hX;by_cases hlt : j < k
   · have hrun : (convert 99 9 (.slice (some ⟨wr.heap.size, 0, none⟩) 1 1)).run Tryz.prog (wr.alloc (.cells #[.int .u8 ((X : Int) % 256)] 5)) = .ok (.string ⟨[xJ n j].toArray⟩) (wr.alloc (.cells #[.int .u8 ((X : Int) % 256)] 5)) := by
       exact run_convert_bytes_back (P := Tryz.prog) (wr.alloc (.cells #[.int .u8 ((X : Int) % 256)] 5)) 99 9 5 ⟨wr.heap.size, 0, none⟩ 1 [xJ n j] Tryz.underlying99 Tryz.underlying5 Tryz.underlying9
         (fun i hi => by
           have hij : i = 0 := by simpa using hi
           subst hij;have ea : (⟨wr.heap.size, 0, none⟩ : Addr).add 0 = ⟨wr.heap.size, 0, none⟩ := rfl;rw [ea, World.cell?_alloc_mark];simp [xJ, HX.out])
     have hlen : (zU n j).length <= 8 := by simp [zU]; omega
     go_wp2;go_roundw
     case rel => exact ⟨j + 1, X / 256, by omega, by go_num, by rw [zI4]; exact congrArg Value.string (ByteArray.ext (by simp)), by go_num, by rw [HX.out, zK7], hg.alloc hg.size _⟩
     case measure => simp [intOf]; omega
   · have hjs : j = k := by omega
     subst hjs;go_wp2;go_ret;exact ⟨rfl, hg⟩
end Go.Proofs.YtndhmidgnpobjaaGreatDoor
end
section
namespace Go.Proofs.YtndhmidgnpobjaaGreatDoor
open Go.ChangeShapes Go.WideShapes Go.ChangeAt Go.RowKit
abbrev tB : TypeId := 185
abbrev t8 : TypeId := 5
theorem zLv : (Tryz.prog.info? tB).map (·.size) = some 2 := by kernel_rfl
theorem zLz : liesAt Tryz.prog Tryz.prog.depth tB (2 / Tryz.prog.cellsOf tB) 0 tB 1 = true := by kernel_rfl
theorem zI0 : (Tryz.prog.info? t8).map (fun i => (i.zero, i.size, i.bytes)) = some (some (.int .u8 0), 1, 1) := by kernel_rfl
theorem zOw : tB ≠ t8 := by decide
set_option maxHeartbeats 1000000 in
set_option maxRecDepth 100000 in
theorem zO9 (B b : Nat) (bs : List Value) (w : World) (h : Lib.IsBuilder tB t8 B b bs w) :
   Calls Tryz.prog 177 #[.pointer (some ⟨b, 0, none⟩)] w fun e w' => e = .returned (.tuple #[]) /\ Lib.BuilderAt tB t8 B b (.pointer (some ⟨b, 0, none⟩)) bs w' /\ Below B w w' := by
 obtain ⟨j, hj, hjs⟩ := Option.map_eq_some_iff.1 zLv;rcases h with h | h
 · have h0 := h.cell0;have hsh := h.shape;have hfz := h.frozen0;have H := Lh h;clear h;go_enter Tryz.func177, Tryz.ntmps177;go_wp2;rw [Lib.run_to_unsafe w ⟨b, 0, none⟩ Tryz.underlying183 Tryz.underlying285 hj (by rw [hjs]; decide) hsh (Nat.zero_lt_succ 1)];simp only [Result.andThen];rw [Oper.upon_value];go_wp2;rw [run_callFunc_extern Tryz.func216 (by kernel_rfl) (by kernel_rfl) (by kernel_rfl) (e := Extern.AbiNoEscape.same) (by kernel_rfl)];rw [Lib.run_noEscape];simp only [Result.andThen];rw [Oper.upon_value];go_wp2;rw [Lib.run_from_unsafe w ⟨b, 0, none⟩ Tryz.underlying285 Tryz.underlying183 hj hsh zLz];simp only [Result.andThen];rw [Oper.upon_value];go_wp2;go_end0
   exact ⟨rfl, H.out.used _, (Below.refl B w).setCell (p := ⟨b, 0, none⟩) H.out.1 _⟩
 · have h0 := h.cell0;have H := Lh h;clear h;go_enter Tryz.func177, Tryz.ntmps177;go_wp2;rw [Lib.run_neq_ptr_same w _ Tryz.underlying183 hj];go_wp2;go_end0
   exact ⟨rfl, H.out, Below.refl B _⟩
set_option maxHeartbeats 2000000 in
set_option maxRecDepth 100000 in
theorem zC5 (B b : Nat) (bs : List Value) (s : ByteArray) (w : World) (h : Lib.IsBuilder tB t8 B b bs w) (hlen : bs.length + s.size <= 1000000000) (hBw : B <= w.heap.size) :
   Calls Tryz.prog 113 #[.pointer (some ⟨b, 0, none⟩), .string s] w fun e w' => e = .returned (.tuple #[.int .i64 s.size, .nilIface]) /\ Lib.BuilderAt tB t8 B b (.pointer (some ⟨b, 0, none⟩)) (bs ++ Lib.strCells s) w' /\ Below B w w' := by
 obtain ⟨i0, hi, hz0, hz1, hz2⟩ := info_parts zI0;have HC := Lh (zO9 B b bs w h);clear h;go_enter Tryz.func113, Tryz.ntmps113;go_wp2_with (go_at_call 177; refine HC.out.mono ?_)
 rintro e w1 ⟨rfl, ⟨hB, v, hbk, hown, hne⟩, hb1⟩;have c0 : w1.cell? ⟨b, 0, none⟩ = some (.pointer (some ⟨b, 0, none⟩)) := by rw [Lib.cell_of_heap hbk]; rfl
 have c1 : w1.cell? ⟨b, 1, none⟩ = some v := by rw [Lib.cell_of_heap hbk]; rfl
 go_wp2_with (at_builtin; refine Lib.wpList_append_own_string _ rfl _ _ 99 9 rfl B t8 i0 Tryz.underlying99 Tryz.underlying9 hi hz0 hz1 hz2 _ _ _ rfl hown s rfl ?c3 ?c4 ?c5 ?_)
 case c3 => unfold maxLen; omega
 case c4 => omega
 case c5 => have := hb1.size; omega
 intro v' w2 hown' hgrow _;have hlt : b < w1.heap.size := Lib.BuilderAt.lt ⟨hB, v, hbk, hown, hne⟩;have hb2 : w2.heap[b]? = some (.cells #[.pointer (some ⟨b, 0, none⟩), v] tB (0, 0)) := (hgrow.block b hlt fun e => hne e.symm).trans hbk;have d0 : w2.cell? ⟨b, 0, none⟩ = some (.pointer (some ⟨b, 0, none⟩)) := by rw [Lib.cell_of_heap hb2]; rfl
 have d1 : w2.cell? ⟨b, 1, none⟩ = some v := by rw [Lib.cell_of_heap hb2]; rfl
 have f1 : w2.frozen? ⟨b, 1, none⟩ = false := Lib.frozen_of_heap hb2 1;obtain ⟨ao, n', cap, rfl⟩ : ∃ ao n' cap, v' = .slice ao n' cap := by
   rcases hown'.2 with ⟨hv, _⟩ | ⟨g, cap, cur, hv, _⟩ <;> exact ⟨_, _, _, hv⟩
 go_wp2;go_ret2;exact ⟨rfl, Lib.BuilderAt.put (T := tB) (e := t8) hB hb2 (bs' := bs ++ Lib.strCells s) (by simpa [Lib.strCells_length] using hown') zOw,
   (hb1.grown hgrow (by have := hb1.size; omega) (fun k hk => (hown.lt k hk).1)).setCell (p := ⟨b, 1, none⟩) hB _⟩
end Go.Proofs.YtndhmidgnpobjaaGreatDoor
end
section
namespace Go.Proofs.YtndhmidgnpobjaaGreatDoor.Pg
open Go.ChangeShapes Go.WideShapes Go.ChangeAt Go.RowKit
theorem number_any (s : ByteArray) (w : World) (hs : s.size <= 9223372036854775807) :
   Calls Tryz.prog 137 #[.string s] w fun e w' => e = .returned (.tuple #[.int .i64 (hN s), .int .i64 (hE s)]) /\ Below w.heap.size w w' := by
 have HH := Lh (fun w => fT s w hs);have b1 := zJw s;have b2 := zN3 s;generalize hE s = E at *
 generalize hN s = N at *
 generalize hK s = K at *
 go_enter Tryz.func137, Tryz.ntmps137;go_wp2_with (go_at_call 193; with_reducible refine (HH.out _).mono ?_; rintro e w1 ⟨rfl, hb⟩)
 go_ret2;exact ⟨rfl, hb⟩
def uE (s : ByteArray) (no : Int) : Nat := if hE s ≠ 0 then hE s else if (hN s : Int) = no then 0 else 13
def uK (s : ByteArray) (no : Int) : Nat := if uE s no = 0 then hK s else 0
def uT (s : ByteArray) (no : Int) : ByteArray := if uE s no = 0 then hT s else ⟨#[]⟩
theorem unpack_any (s : ByteArray) (no : Int) (w : World) (hs : s.size <= 9223372036854775807) :
   Calls Tryz.prog 194 #[.string s, .int .i64 no] w fun e w' => e = .returned (.tuple #[.int .i64 (uK s no), .string (uT s no), .int .i64 (uE s no)]) /\ Below w.heap.size w w' := by
 have HH := Lh (fun w => fT s w hs);have b1 := zJw s;have b2 := zN3 s;have b3 := zGz s;by_cases h1 : hE s = 0
 · have hz := zGj s h1;have hT1 : hT s = s.extract 16 s.size := by unfold hT; rw [if_pos h1]
   have hz2 := Xa s h1;by_cases h2 : (hN s : Int) = no
   · have e1 : uE s no = 0 := by unfold uE; rw [if_neg (by simp [h1]), if_pos h2]
     have e2 : uK s no = hK s := by unfold uK; rw [if_pos e1]
     have e3 : uT s no = s.extract 16 s.size := by unfold uT; rw [if_pos e1, hT1]
     rw [hT1] at hz2;have HC := Lh (fun w => uS (s.extract 16 s.size) w (by omega));have g1 : ((hN s : Int) != no) = false := by simp [h2]
     have q16 : (16 : Int) <= s.size := by omega
     rw [e1, e2, e3];rw [h1] at HH;clear e1 e2 e3 hT1 h2 h1 hz;generalize hE s = E at *
     generalize hN s = N at *
     generalize hK s = K at *
     go_enter Tryz.func194, Tryz.ntmps194;go_wp2_with (first
       | (go_at_call 193; with_reducible refine (HH.out _).mono ?_; rintro e w1 ⟨rfl, hb⟩)
       | (go_at_call 179; with_reducible refine (HC.out _).mono ?_; rintro e w2 ⟨rfl, hb2⟩))
     go_ret3;exact ⟨rfl, hb.trans (hb2.mono hb.size)⟩
   · have e1 : uE s no = 13 := by unfold uE; rw [if_neg (by simp [h1]), if_neg h2]
     have e2 : uK s no = 0 := by unfold uK; rw [if_neg (by omega)]
     have e3 : uT s no = ⟨#[]⟩ := by unfold uT; rw [if_neg (by omega)]
     have g1 : ((hN s : Int) != no) = true := by rw [bne_iff_ne]; exact h2
     rw [e1, e2, e3];rw [h1] at HH;clear e1 e2 e3 hT1 h2 h1 hz hz2;generalize hE s = E at *
     generalize hN s = N at *
     generalize hK s = K at *
     go_enter Tryz.func194, Tryz.ntmps194;go_wp2_with (first
       | (go_at_call 193; with_reducible refine (HH.out _).mono ?_; rintro e w1 ⟨rfl, hb⟩))
     go_ret3;exact ⟨rfl, hb⟩
 · have e1 : uE s no = hE s := by unfold uE; rw [if_pos h1]
   have e2 : uK s no = 0 := by unfold uK; rw [if_neg (by omega)]
   have e3 : uT s no = ⟨#[]⟩ := by unfold uT; rw [if_neg (by omega)]
   have g1 : ((hE s : Int) != 0) = true := by rw [bne_iff_ne]; omega
   rw [e1, e2, e3];clear e1 e2 e3 h1;generalize hE s = E at *
   generalize hN s = N at *
   generalize hK s = K at *
   go_enter Tryz.func194, Tryz.ntmps194;go_wp2_with (first
     | (go_at_call 193; with_reducible refine (HH.out _).mono ?_; rintro e w1 ⟨rfl, hb⟩))
   go_ret3;exact ⟨rfl, hb⟩
end Go.Proofs.YtndhmidgnpobjaaGreatDoor.Pg
end
section
namespace Go.Proofs.YtndhmidgnpobjaaGreatDoor.Pg
open Go.ChangeShapes Go.WideShapes Go.ChangeAt Go.RowKit
theorem info_str : (Tryz.prog.info? 9).map (fun i => (i.zero, i.size, i.bytes)) = some (some (.string ⟨#[]⟩), 1, 16) := by kernel_rfl
def secB (s : ByteArray) (i : Nat) : ByteArray := s.extract (i * 64) ((i + 1) * 64)
def cutV (s : ByteArray) (j i : Nat) : Value := .string (if i < j then secB s i else ⟨#[]⟩)
def cutC (s : ByteArray) (j : Nat) : Array Value := ((List.range 8).map (cutV s j)).toArray
theorem Ux (s : ByteArray) (j : Nat) : (cutC s j).size = 8 := by simp [cutC]
theorem cutC_get (s : ByteArray) (j i : Nat) (hi : i < 8) : (cutC s j)[i]? = some (cutV s j i) := by simp [cutC, hi]
theorem zIc (s : ByteArray) : madeCells #[Value.string ⟨#[]⟩] 8 = cutC s 0 := by
 apply Array.ext'
 rw [toList_madeCells_one];simp [cutC, cutV];rfl
theorem zJd (s : ByteArray) (j : Nat) (hj : j < 8) : (cutC s j).setIfInBounds j (.string (secB s j)) = cutC s (j + 1) := by
 apply Array.ext_getElem?
 intro i;by_cases hi : i < 8
 · rw [Array.getElem?_setIfInBounds, cutC_get s (j + 1) i hi, cutC_get s j i hi, Ux];by_cases h : j = i
   · subst h; simp [hj, cutV]
   · simp only [h, if_false, cutV];congr 2
     by_cases h1 : i < j
     · rw [if_pos h1, if_pos (by omega)]
     · rw [if_neg h1, if_neg (by omega)]
 · rw [Array.getElem?_eq_none (by simp [Ux]; omega), Array.getElem?_eq_none (by simp [Ux]; omega)]
theorem secB_size (s : ByteArray) (i : Nat) (h : s.size = 512) (hi : i < 8) : (secB s i).size = 64 := by
 unfold secB; rw [ByteArray.size_extract]; omega
set_option maxRecDepth 10000 in
theorem cut_yes (s : ByteArray) (w : World) (h : s.size = 512) :
   Calls Tryz.prog 118 #[.string s] w fun e w' => e = .returned (.slice (some ⟨w.heap.size, 0, none⟩) 8 8) /\ Own w' w.heap.size 9 (cutC s 8) /\ Below w.heap.size w w' := by
 have h3 : ((s.size : Int) != 512) = false := by simp; omega
 have HM : (Instr.makeSlice 34 (.int .i64 8) (.int .i64 8)).run Tryz.prog w = _ := run_make_row' (P := Tryz.prog) 34 9 (.string ⟨#[]⟩) 16 Tryz.underlying34 info_str rfl .i64 .i64 8 (by omega) (by omega) w;rw [zIc s] at HM;have HO := Own.made w 9 (cutC s 0);obtain ⟨W0, hW0⟩ : ∃ W0, W0 = w.alloc (.cells (cutC s 0) 9) := ⟨_, rfl⟩
 have L0 : Below w.heap.size w W0 := hW0 ▸ (Below.refl _ _).alloc (Nat.le_refl _) _;rw [<- hW0] at HM HO;replace HO := Lh HO;replace L0 := Lh L0;have HS := Lh h;clear hW0 h;go_enter Tryz.func118, Tryz.ntmps118;go_wp2;clear HM;go_loopw [9] (fun i wr => ∃ k : Nat, k <= 8 /\ i = .int .i64 k /\ Own wr w.heap.size 9 (cutC s k) /\ Below w.heap.size w wr) (fun i wr => 8 - (intOf i).toNat)
 case atStart => exact ⟨0, by omega, rfl, HO.out, L0.out⟩
 case round =>
   obtain ⟨k, hk, rfl, hO, hL⟩ := hrel;by_cases hlt : k < 8
   · have hs := HS.out;have g1 : ((k : Int) + 1) * 64 <= s.size := by omega
     have g2 : (k : Int) * 64 <= ((k : Int) + 1) * 64 := by omega
     have e1 : s.extract ((k : Int) * 64).toNat (((k : Int) + 1) * 64).toNat = secB s k := by
       unfold secB; congr 1 <;> omega
     have HC := Lh (fun w => uS (secB s k) w (by rw [secB_size s k hs hlt]; omega));have hsz := hL.size;replace hO := Lh hO;replace hL := Lh hL;have hsl := run_slice_string (P := Tryz.prog) wr 9 s .i64 .i64 ((k : Int) * 64) (((k : Int) + 1) * 64) Tryz.underlying9 (by omega) (by omega) (by omega);rw [e1] at hsl;clear hs e1;go_wp2_with (go_at_call 179; refine (HC.out _).mono ?_; rintro e w2 ⟨rfl, hb2⟩; have hO2 := hO.out.keep hb2; have hc2 := hO2.at_.2.1; have hc3 : w2.cell? ⟨w.heap.size, k, none⟩ = some (cutV s k k) := (hO2.at_.1 k).trans (cutC_get s k k hlt); replace hO2 := Lh hO2)
     go_roundw
     case rel =>
       have hL2 := then_ hL.out hb2 hsz;exact ⟨k + 1, by omega, by go_num, (hO2.out.put k _).as (zJd s k hlt), hL2.setCell (Nat.le_refl _) _⟩
     case measure => simp [intOf]; omega
   · obtain rfl : k = 8 := by omega
     go_wp2;go_ret;exact ⟨rfl, hO, hL⟩
end Go.Proofs.YtndhmidgnpobjaaGreatDoor.Pg
end
section
namespace Go.Proofs.YtndhmidgnpobjaaGreatDoor
open Go.ChangeShapes Go.WideShapes Go.ChangeAt Go.RowKit
structure Chg (S : Nat -> Prop) (w w' : World) : Prop where
 os : w'.os = w.os
 tape : w'.tape = w.tape
 output : w'.output = w.output
 size : w.heap.size <= w'.heap.size
 block : ∀ q, q < w.heap.size -> ¬ S q -> w'.heap[q]? = w.heap[q]?
theorem Chg.refl (S : Nat -> Prop) (w : World) : Chg S w w := ⟨rfl, rfl, rfl, Nat.le_refl _, fun _ _ _ => rfl⟩
theorem Chg.trans {S T : Nat -> Prop} {a b c : World} (h : Chg S a b) (k : Chg T b c) (hT : ∀ q, q < a.heap.size -> T q -> S q) : Chg S a c :=
 ⟨k.os.trans h.os, k.tape.trans h.tape, k.output.trans h.output, Nat.le_trans h.size k.size, fun q hq hn => (k.block q (Nat.lt_of_lt_of_le hq h.size) (fun ht => hn (hT q hq ht))).trans (h.block q hq hn)⟩
theorem Chg.same {S : Nat -> Prop} {a b c : World} (h : Chg S a b) (k : Chg S b c) : Chg S a c := h.trans k fun _ _ h => h
theorem Chg.mono {S T : Nat -> Prop} {a b : World} (h : Chg S a b) (hT : ∀ q, q < a.heap.size -> S q -> T q) : Chg T a b := ⟨h.os, h.tape, h.output, h.size, fun q hq hn => h.block q hq fun hs => hn (hT q hq hs)⟩
theorem Chg.of {S : Nat -> Prop} {w w' : World} (h : Below w.heap.size w w') : Chg S w w' := ⟨h.os, h.tape, h.output, h.size, fun q hq _ => h.block q hq⟩
theorem Chg.below {S : Nat -> Prop} {w w' : World} (h : Chg S w w') {B : Nat} (hB : B <= w.heap.size) (hS : ∀ q, S q -> B <= q) : Below B w w' := ⟨h.os, h.tape, h.output, h.size, fun q hq => h.block q (by omega) fun hs => by have := hS q hs; omega⟩
theorem Chg.set {S : Nat -> Prop} {w w' : World} (h : Chg S w w') (p : Addr) (hp : S p.block \/ w.heap.size <= p.block) (v : Value) : Chg S w (w'.setCell p v) :=
 ⟨h.os, h.tape, h.output, by simpa [World.setCell] using h.size, fun q hq hn => (Below.heap_setCell _ p v q (by rintro rfl; rcases hp with hp | hp; exact hn hp; omega)).trans (h.block q hq hn)⟩
theorem Chg.alloc {S : Nat -> Prop} {w w' : World} (h : Chg S w w') (o : Obj) : Chg S w (w'.alloc o) :=
 ⟨h.os, h.tape, h.output, Nat.le_trans h.size ((Below.refl 0 w').alloc (Nat.zero_le _) o).size, fun q hq hn => (Below.heap_alloc w' o q (Nat.lt_of_lt_of_le hq h.size)).trans (h.block q hq hn)⟩
theorem Chg.drew {S : Nat -> Prop} {w w' : World} (h : Chg S w w') : Chg S w w'.drew := ⟨h.os, h.tape, h.output, h.size, h.block⟩
theorem Chg.drewN {S : Nat -> Prop} {w w' : World} (h : Chg S w w') (n : Nat) : Chg S w (w'.drewN n) := ⟨h.os, h.tape, h.output, h.size, h.block⟩
theorem Chg.grown {S : Nat -> Prop} {w w1 w2 : World} {row : Option Nat} (h : Chg S w w1) (hg : w1.grownBy w2 row) (hr : ∀ k, row = some k -> S k \/ w.heap.size <= k) : Chg S w w2 :=
 ⟨hg.os.trans h.os, hg.tape.trans h.tape, hg.output.trans h.output, Nat.le_trans h.size hg.size, fun q hq hn => (hg.block q (Nat.lt_of_lt_of_le hq h.size) (fun e => by rcases hr q e.symm with hs | hs; exact hn hs; omega)).trans (h.block q hq hn)⟩
theorem Chg.own {S : Nat -> Prop} {w w' : World} {q : Nat} {T : TypeId} {cs : Array Value} (h : Chg S w w') (ho : Own w q T cs) (hn : ¬ S q) : Own w' q T cs := (h.block q ho.in_ hn).trans ho
theorem Chg.call {S : Nat -> Prop} {a w w' : World} (h : Chg S a w) (hb : Below w.heap.size w w') : Chg S a w' := h.same (Chg.of hb)
theorem Chg.cell {S : Nat -> Prop} {w w' : World} (h : Chg S w w') {b o : Nat} {v : Value} (hc : w.cell? ⟨b, o, none⟩ = some v) (hn : ¬ S b) : w'.cell? ⟨b, o, none⟩ = some v :=
 (World.cell?_of_block (w := w) (h.block b (Qq hc) hn)).trans hc
theorem xA.keep {w w' : World} {b : Nat} {L : List UInt8} (h : xA w b L) (e : w'.heap[b]? = w.heap[b]?) : xA w' b L :=
 ⟨fun j hj => (World.cell?_of_block (w := w) (a := ⟨b, j, none⟩) e).trans (h.cell j hj), fun j hj => (World.frozen?_of_block (w := w) (a := ⟨b, j, none⟩) e).trans (h.free j hj)⟩
theorem xA.in_ {w : World} {b : Nat} {L : List UInt8} (h : xA w b L) (hL : 0 < L.length) : b < w.heap.size := Qq (h.cell 0 hL)
theorem gH (b : Nat) : ∀ (u : List UInt8) (w : World) (o : Nat) (L : List UInt8), xA w b L -> o + u.length <= L.length ->
   xA (w.setCells b o (u.map fun x => .int .u8 (x.toNat : Int))) b (L.take o ++ u ++ L.drop (o + u.length))
 | [], w, o, L, h, hl => by simpa [World.setCells] using h
 | x :: u, w, o, L, h, hl => by
   simp only [List.length_cons] at hl;have ih := gH b u (w.setCell ⟨b, o, none⟩ (.int .u8 (x.toNat : Int))) (o + 1) (L.set o x) (h.store o (by omega) x) (by simp; omega);have e : (L.set o x).take (o + 1) ++ u ++ (L.set o x).drop (o + 1 + u.length) = L.take o ++ (x :: u) ++ L.drop (o + (u.length + 1)) := by
     rw [List.take_succ_eq_append_getElem (by simp; omega), List.drop_set_of_lt (by omega), List.take_set_of_le (by omega)];simp;congr 1
     omega
   rw [e] at ih;exact ih
theorem xU {S : Nat -> Prop} {w : World} {b : Nat} (hb : S b \/ w.heap.size <= b) : ∀ (vs : List Value) (w' : World) (o : Nat), Chg S w w' -> Chg S w (w'.setCells b o vs)
 | [], w', o, h => h
 | v :: vs, w', o, h => xU hb vs _ (o + 1) (h.set ⟨b, o, none⟩ hb v)
def vC (w : World) (b : Nat) (k : IntKind) (f : Int -> Option Value) : Prop :=
 ∃ es ck, w.heap[b]? = some (.map es ck) /\ (∀ e ∈ es.toList, e.key = .int k (intOf e.key)) /\
   ∀ i, f i = (es.toList.find? fun e => intOf e.key == i).map (·.val)
theorem vC.in_ {w : World} {b : Nat} {k : IntKind} {f : Int -> Option Value} (h : vC w b k f) : b < w.heap.size := by
 obtain ⟨es, ck, hb, _⟩ := h;exact (Array.getElem?_eq_some_iff.1 hb).1
theorem vC.keep {w w' : World} {b : Nat} {k : IntKind} {f : Int -> Option Value} (h : vC w b k f) (e : w'.heap[b]? = w.heap[b]?) : vC w' b k f := by
 obtain ⟨es, ck, hb, r⟩ := h;exact ⟨es, ck, e.trans hb, r⟩
theorem vC.made (w : World) (k : IntKind) : vC (w.alloc (.map #[] 0)) w.heap.size k (fun _ => none) :=
 ⟨#[], 0, by unfold World.alloc; simp, by simp, by simp⟩
theorem vC.ne {w : World} {b p : Nat} {k : IntKind} {f : Int -> Option Value} (h : vC w b k f) {T : TypeId} {cs : Array Value} (ho : Own w p T cs) : b ≠ p := by
 rintro rfl;obtain ⟨es, ck, hb, _⟩ := h;unfold Own at ho;rw [ho] at hb;cases hb
theorem vC.ne_cell {w : World} {b p o : Nat} {k : IntKind} {f : Int -> Option Value} (h : vC w b k f) {v : Value} (ho : w.cell? ⟨p, o, none⟩ = some v) : b ≠ p := by
 rintro rfl;obtain ⟨es, ck, hb, _⟩ := h;simp [World.cell?, hb] at ho
theorem jR (k : IntKind) (i : Int) : ∀ (l : List MapEntry) (n : Nat), (∀ e ∈ l, e.key = .int k (intOf e.key)) ->
   (l.find? (fun e => intOf e.key == i) = none /\ Instr.findNow (.int k) (.int k i) l n = some none) \/
   ∃ j e, l[j]? = some e /\ intOf e.key = i /\ l.find? (fun e => intOf e.key == i) = some e /\ (∀ j' e', j' < j -> l[j']? = some e' -> intOf e'.key ≠ i) /\ Instr.findNow (.int k) (.int k i) l n = some (some (n + j, e.val))
 | [], n, _ => .inl ⟨rfl, rfl⟩
 | e :: l, n, h => by
   have he := h e (by simp);have hs : Instr.sameNow (.int k) (.int k i) e.key = some (i == intOf e.key) := by rw [he]; simp [Instr.sameNow, intOf]
   by_cases hi : intOf e.key = i
   · refine .inr ⟨0, e, rfl, hi, by simp [hi], by intro j' e' h; omega, ?_⟩;simp [Instr.findNow, hs, hi]
   · have hne : (i == intOf e.key) = false := by simpa using fun h => hi h.symm
     have hf : (intOf e.key == i) = false := by simpa using hi
     rcases jR k i l (n + 1) (fun e' he' => h e' (by simp [he'])) with ⟨h1, h2⟩ | ⟨j, e', h1, h2, h3, h4, h5⟩
     · exact .inl ⟨by simp [hf, h1], by simp [Instr.findNow, hs, hne, h2]⟩
     · refine .inr ⟨j + 1, e', by simpa using h1, h2, by simp [hf, h3], fun j' e'' hj hl => ?_, by simp [Instr.findNow, hs, hne, h5]; omega⟩;cases j' with
       | zero => simp at hl; subst hl; exact hi
       | succ j' => exact h4 j' e'' (by omega) (by simpa using hl)
theorem zCd (i : Int) (e' : MapEntry) (hk : intOf e'.key = i) : ∀ (l : List MapEntry) (j : Nat) (e : MapEntry), l[j]? = some e -> intOf e.key = i -> (∀ j' e'', j' < j -> l[j']? = some e'' -> intOf e''.key ≠ i) ->
   (l.set j e').find? (fun e => intOf e.key == i) = some e' /\ ∀ i', i' ≠ i -> (l.set j e').find? (fun e => intOf e.key == i') = l.find? (fun e => intOf e.key == i')
 | [], j, e, h, _, _ => by simp at h
 | x :: l, 0, e, h, he, _ => by
   simp at h; subst h;refine ⟨by simp [hk], fun i' hi' => ?_⟩;have h1 : (intOf e'.key == i') = false := by simpa [hk] using fun h => hi' h.symm
   have h2 : (intOf x.key == i') = false := by simpa [he] using fun h => hi' h.symm
   simp [h1, h2]
 | x :: l, j + 1, e, h, he, hf => by
   have hx : intOf x.key ≠ i := hf 0 x (by omega) rfl;have ih := zCd i e' hk l j e (by simpa using h) he (fun j' e'' hj hl => hf (j' + 1) e'' (by omega) (by simpa using hl));have hx' : (intOf x.key == i) = false := by simpa using hx
   refine ⟨by simp [hx', ih.1], fun i' hi' => ?_⟩;simp only [List.set_cons_succ, List.find?_cons];rw [ih.2 i' hi']
section
variable {P : Program} {w : World} {t e : TypeId} {k : IntKind} {f : Int -> Option Value} {b : Nat} {kt : TypeId}
theorem yS (hk : P.underlying kt = some (.int k)) (em : Bool) (i : Int) (w : World) : (Instr.checkKey em 10000 kt (.int k i)).run P w = .ok () w := by
 exact MapKept.run_checkKey hk (by simp [MapKept.IsKey]) em 9999
theorem vC.look (h : vC w b k f) (ht : P.underlying t = some (.map kt e)) (hk : P.underlying kt = some (.int k)) {z : Value} (hz : (zeroValue e).run P w = .ok z w) (i : Int) :
   (Instr.lookup t (.map (some b)) (.int k i) true).run P w = .ok (.tuple #[(f i).getD z, .bool (f i).isSome]) w := by
 obtain ⟨es, ck, hb, hks, hf⟩ := h;rw [hf i];rcases jR k i es.toList 0 hks with ⟨h1, h2⟩ | ⟨j, e0, h1, h2, h3, h4, h5⟩
 · simp [Instr.lookup, run_underlying ht, MapKept.run_getObj_map hb, yS hk, Instr.findKey, run_underlying hk, h1, h2, hz, Result.andThen]
 · simp [Instr.lookup, run_underlying ht, MapKept.run_getObj_map hb, yS hk, Instr.findKey, run_underlying hk, h3, h5, hz, Result.andThen]
theorem vC.put (h : vC w b k f) (ht : P.underlying t = some (.map kt e)) (hk : P.underlying kt = some (.int k)) (i : Int) (v : Value) :
   ∃ w', (Instr.mapUpdate t (.map (some b)) (.int k i) v).run P w = .ok () w' /\ vC w' b k (fun j => if j = i then some v else f j) /\ Chg (· = b) w w' /\ w'.heap.size = w.heap.size := by
 obtain ⟨es, ck, hb, hks, hf⟩ := h;have hlt : b < w.heap.size := (Array.getElem?_eq_some_iff.1 hb).1;have key : ∀ (es' : Array MapEntry) (ck' : Nat), Chg (· = b) w { w with heap := w.heap.setIfInBounds b (.map es' ck') } /\ ({ w with heap := w.heap.setIfInBounds b (.map es' ck') } : World).heap[b]? = some (.map es' ck') := fun es' ck' =>
   ⟨⟨rfl, rfl, rfl, by simp, fun q _ hq => by simp; rw [Array.getElem?_setIfInBounds_ne (Ne.symm hq)]⟩, by simp [hlt]⟩
 rcases jR k i es.toList 0 hks with ⟨h1, h2⟩ | ⟨j, e0, h1, h2, h3, h4, h5⟩
 · refine ⟨{ w with heap := w.heap.setIfInBounds b (.map (es.push ⟨.int k i, v, ck⟩) (ck + 1)) }, by simp [Instr.mapUpdate, run_underlying ht, MapKept.run_getObj_map hb, yS hk, Instr.findKey, run_underlying hk, h2, MapKept.run_setObj_map _ hb, Result.andThen], ⟨_, _, (key _ _).2, ?_, ?_⟩, (key _ _).1, by simp⟩
   · intro x hx;simp only [Array.toList_push, List.mem_append, List.mem_singleton] at hx;rcases hx with hx | rfl
     · exact hks x hx
     · simp [intOf]
   · intro i';rw [Array.toList_push, List.find?_append];by_cases e : i' = i
     · subst e;rw [h1];have : (intOf (Value.int k i') == i') = true := by simp [intOf]
       simp [this]
     · have : ((i : Int) == i') = false := by simpa using fun h => e h.symm
       simp [e, hf i', intOf, this]
 · have hj : es[j]? = some e0 := by simpa using h1
   have hjl : j < es.toList.length := (List.getElem?_eq_some_iff.1 h1).1;have hek : e0.key = .int k i := by rw [hks e0 (List.mem_of_getElem? h1), h2]
   have hst : (Instr.keyThatStays (.int k i) (.int k i)).run P w = .ok (.int k i) w := by
     have : Instr.sameBits 10000 (.int k i) (.int k i) = true := by unfold Instr.sameBits; simp
     simp [Instr.keyThatStays, this]
   have hlist : (es.modify j (fun e' => { e' with key := .int k i, val := v })).toList = es.toList.set j { e0 with key := .int k i, val := v } := by
     rw [Array.toList_modify];refine List.ext_getElem? fun n => ?_
     rw [List.getElem?_modify, List.getElem?_set];by_cases e : j = n
     · subst e; simp [hj, hjl];simpa using hjl
     · simp [e]
   have hfs := zCd i { e0 with key := .int k i, val := v } (by simp [intOf]) es.toList j e0 h1 h2 h4;refine ⟨{ w with heap := w.heap.setIfInBounds b (.map (es.modify j fun e' => { e' with key := .int k i, val := v }) ck) }, by simp [Instr.mapUpdate, run_underlying ht, MapKept.run_getObj_map hb, yS hk, Instr.findKey, run_underlying hk, h5, hj, hek, hst, MapKept.run_setObj_map _ hb, Result.andThen], ⟨_, _, (key _ _).2, ?_, ?_⟩, (key _ _).1, by simp⟩
   · intro x hx;rw [hlist] at hx;rcases List.mem_or_eq_of_mem_set hx with hx | rfl
     · exact hks x hx
     · simp [intOf]
   · intro i';rw [hlist];by_cases e : i' = i
     · subst e; simp [hfs.1]
     · simp [e, hfs.2 i' e, hf i']
theorem vC.clear (h : vC w b k f) (ty : TypeId) (ht : P.underlying t = some (.map kt e)) :
   ∃ w', (Builtin.clear_ #[t] ty #[.map (some b)]).run P w = .ok (.tuple #[]) w' /\ vC w' b k (fun _ => none) /\ Chg (· = b) w w' /\ w'.heap.size = w.heap.size := by
 obtain ⟨es, ck, hb, hks, hf⟩ := h;have hlt : b < w.heap.size := (Array.getElem?_eq_some_iff.1 hb).1;refine ⟨{ w with heap := w.heap.setIfInBounds b (.map #[] ck) }, by simp [Builtin.clear_, run_underlying ht, MapKept.run_getObj_map hb, MapKept.run_setObj_map _ hb, Result.andThen], ⟨#[], ck, by simp [hlt], by simp, by simp⟩, ⟨rfl, rfl, rfl, by simp, fun q _ hq => by simp; rw [Array.getElem?_setIfInBounds_ne (Ne.symm hq)]⟩, by simp⟩
end
end Go.Proofs.YtndhmidgnpobjaaGreatDoor
end
