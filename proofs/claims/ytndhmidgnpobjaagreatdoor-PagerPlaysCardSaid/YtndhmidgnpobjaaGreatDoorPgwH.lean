import Derived.Test.YtndhmidgnpobjaaGreatDoorPgrA
import Derived.ProofKit
import Derived.OpenShut
import Derived.ChangeSame
import Derived.MakeChecks
import Derived.Deep.Slices
import Derived.Deep.Fields
import Derived.Deep.Grids
import Derived.Test.YtndhmidgnpobjaaGreatDoorPgwF
import Derived.Test.YtndhmidgnpobjaaGreatDoorPgvG
import Derived.WalkKit
import Derived.ShutString
import Derived.ChangeOld
import Derived.Below
import Derived.SliceStrings
import Derived.Deep.DeepHandedRow
import Derived.Lib.LaidTab
import Derived.LaidMore
import Derived.Stop.Joined
import Derived.SevenTiedAt
set_option linter.unusedVariables false
set_option linter.unusedSimpArgs false
namespace Go.Proofs.YtndhmidgnpobjaaGreatDoor
open Go.ChangeShapes Go.WideShapes Go.ChangeAt Go.RowKit
section
structure jF where
 do_ : Int
 kind : Int
 byte : Int
 no : Int
 n : Int
 long : Int
 ka : Option Addr
 kl : Nat
 kc : Nat
 zs : List Bool
 torn : Int
 bytes : Int
instance : Inhabited jF := ⟨⟨0, 0, 0, 0, 0, 0, none, 0, 0, [], 0, 0⟩⟩
def jF.cells (x : jF) : Array Value := #[.int .u8 x.do_, .int .u8 x.kind, .int .u8 x.byte, .int .i64 x.no, .int .i64 x.n, .int .u16 x.long, .slice x.ka x.kl x.kc, .int .i64 x.torn, .int .i64 x.bytes]
structure jF.Ok (w : World) (x : jF) : Prop where
 do_ : (Lit.int .u8 x.do_).wf = true
 kind : (Lit.int .u8 x.kind).wf = true
 byte : (Lit.int .u8 x.byte).wf = true
 no : (Lit.int .i64 x.no).wf = true
 n : (Lit.int .i64 x.n).wf = true
 long : (Lit.int .u16 x.long).wf = true
 keep : Uf w x.ka x.kl x.kc x.zs
 old : ∀ b o, x.ka = some ⟨b, o, none⟩ -> 0 < x.kl -> b < w.heap.size
 torn : (Lit.int .i64 x.torn).wf = true
 bytes : (Lit.int .i64 x.bytes).wf = true
theorem zO5 {x : Int} (h : (Lit.int .u16 x).wf = true) : 0 <= x /\ x <= 65535 := by
 simp [Lit.wf, IntKind.min, IntKind.max, IntKind.signed, IntKind.bits] at h;omega
theorem zGq {x : Int} (h : (Lit.int .u8 x).wf = true) : 0 <= x /\ x <= 255 := by
 simp [Lit.wf, IntKind.min, IntKind.max, IntKind.signed, IntKind.bits] at h;omega
theorem Uw {w : World} {a : Addr} {v : Value} (h : w.cell? a = some v) : a.spot = none := by
 unfold World.cell? at h;cases hs : a.spot with
 | none => rfl
 | some x => rw [hs] at h; split at h <;> simp at h
theorem jJ {a : Addr} (h : a.spot = none) (i : Nat) : a = ⟨a.block, a.off, none⟩ /\ a.add i = ⟨a.block, a.off + i, none⟩ := by
 obtain ⟨b, o, s⟩ := a;simp only at h;subst h;exact ⟨rfl, by unfold Addr.add; split <;> simp_all⟩
theorem Xw {a : Addr} (h : (a.add 0).spot = none) : a.spot = none := by
 obtain ⟨b, o, s⟩ := a;cases s with
 | none => rfl
 | some x => unfold Addr.add at h; simp at h
section
variable {H : Type} {enc : TypeId × Value -> H} {W : World} {base : Nat} {held : Bool}
theorem zHb {fuel : Nat} {cs : List Value} {x : DataW H × List MemPlace} (h : DataW.trod enc Tryz.prog W base (fun _ => true) held fuel 42 cs = some x) :
   ∃ a l c zs, cs = [.slice a l c] /\ Uf W a l c zs /\ ∀ b o, a = some ⟨b, o, none⟩ -> 0 < l -> b < W.heap.size := by
 rcases Deep.open_bools Tryz.underlying42 Tryz.underlying4 (by kernel_rfl) h with ⟨rfl, _⟩ | ⟨a, len, cap, B, rfl, hb, hl, hm, _, hc⟩
 · exact ⟨none, 0, 0, [], rfl, ⟨Nat.le_refl _, Nat.zero_le _, .inl rfl⟩, fun _ _ h => by cases h⟩
 · refine ⟨some a, len, cap, (List.range len).map B, rfl, ⟨hl, hm, ?_⟩, ?_⟩
   · by_cases h0 : len = 0
     · exact .inl h0
     · have hs := Xw (Uw (hc 0 (by omega)));refine .inr ⟨a.block, a.off, congrArg some (jJ hs 0).1, fun i hi => ?_⟩;rw [<- (jJ hs i).2, hc i (by omega)];simp [List.getD, hi]
   · intro b o e h0;have hs := Xw (Uw (hc 0 (by omega)));have := hc 0 (by omega);rw [(jJ hs 0).2] at this;have e' : a = ⟨b, o, none⟩ := by simpa using e
     rw [e'] at this;exact Qq this
set_option maxRecDepth 10000 in
theorem zCv {fuel : Nat} {cs : List Value} {x : DataW H × List MemPlace} (h : DataW.trod enc Tryz.prog W base (fun _ => true) held fuel 44 cs = some x) :
   ∃ a : jF, cs = a.cells.toList /\ a.Ok W := by
 obtain ⟨xs, n, _, _, hl, hxl, hf⟩ := DataW.trod_struct Tryz.underlying44 h;have hc : Tryz.prog.cellsOf 44 = 9 := by kernel_rfl
 rw [hc] at hl;have c1 : Tryz.prog.cellsOf 5 = 1 := by kernel_rfl
 have c2 : Tryz.prog.cellsOf 3 = 1 := by kernel_rfl
 have c3 : Tryz.prog.cellsOf 41 = 1 := by kernel_rfl
 have c4 : Tryz.prog.cellsOf 42 = 1 := by kernel_rfl
 match cs, hl with
 | [v0, v1, v2, v3, v4, v5, v6, v7, v8], _ =>
   have hx9 : xs.length = 9 := hxl;match xs, hx9 with
   | [y0, y1, y2, y3, y4, y5, y6, y7, y8], _ =>
     have h0 : DataW.trod enc Tryz.prog W base (fun _ => true) held n 5 [v0] = some y0 := by
       have h := hf 0 _ rfl;change DataW.trod enc Tryz.prog W base (fun _ => true) held n 5 (List.take (Tryz.prog.cellsOf 5) [v0, v1, v2, v3, v4, v5, v6, v7, v8]) = some y0 at h;rw [c1] at h;exact h
     have h1 : DataW.trod enc Tryz.prog W base (fun _ => true) held n 5 [v1] = some y1 := by
       have h := hf 1 _ rfl;change DataW.trod enc Tryz.prog W base (fun _ => true) held n 5 (List.take (Tryz.prog.cellsOf 5) [v1, v2, v3, v4, v5, v6, v7, v8]) = some y1 at h;rw [c1] at h;exact h
     have h2 : DataW.trod enc Tryz.prog W base (fun _ => true) held n 5 [v2] = some y2 := by
       have h := hf 2 _ rfl;change DataW.trod enc Tryz.prog W base (fun _ => true) held n 5 (List.take (Tryz.prog.cellsOf 5) [v2, v3, v4, v5, v6, v7, v8]) = some y2 at h;rw [c1] at h;exact h
     have h3 : DataW.trod enc Tryz.prog W base (fun _ => true) held n 3 [v3] = some y3 := by
       have h := hf 3 _ rfl;change DataW.trod enc Tryz.prog W base (fun _ => true) held n 3 (List.take (Tryz.prog.cellsOf 3) [v3, v4, v5, v6, v7, v8]) = some y3 at h;rw [c2] at h;exact h
     have h4 : DataW.trod enc Tryz.prog W base (fun _ => true) held n 3 [v4] = some y4 := by
       have h := hf 4 _ rfl;change DataW.trod enc Tryz.prog W base (fun _ => true) held n 3 (List.take (Tryz.prog.cellsOf 3) [v4, v5, v6, v7, v8]) = some y4 at h;rw [c2] at h;exact h
     have h5 : DataW.trod enc Tryz.prog W base (fun _ => true) held n 41 [v5] = some y5 := by
       have h := hf 5 _ rfl;change DataW.trod enc Tryz.prog W base (fun _ => true) held n 41 (List.take (Tryz.prog.cellsOf 41) [v5, v6, v7, v8]) = some y5 at h;rw [c3] at h;exact h
     have h6 : DataW.trod enc Tryz.prog W base (fun _ => true) held n 42 [v6] = some y6 := by
       have h := hf 6 _ rfl;change DataW.trod enc Tryz.prog W base (fun _ => true) held n 42 (List.take (Tryz.prog.cellsOf 42) [v6, v7, v8]) = some y6 at h;rw [c4] at h;exact h
     have h7 : DataW.trod enc Tryz.prog W base (fun _ => true) held n 3 [v7] = some y7 := by
       have h := hf 7 _ rfl;change DataW.trod enc Tryz.prog W base (fun _ => true) held n 3 (List.take (Tryz.prog.cellsOf 3) [v7, v8]) = some y7 at h;rw [c2] at h;exact h
     have h8 : DataW.trod enc Tryz.prog W base (fun _ => true) held n 3 [v8] = some y8 := by
       have h := hf 8 _ rfl;change DataW.trod enc Tryz.prog W base (fun _ => true) held n 3 (List.take (Tryz.prog.cellsOf 3) [v8]) = some y8 at h;rw [c2] at h;exact h
     obtain ⟨x0, e0, _, w0⟩ := DataW.trod_int Tryz.underlying5 h0;obtain ⟨x1, e1, _, w1⟩ := DataW.trod_int Tryz.underlying5 h1;obtain ⟨x2, e2, _, w2⟩ := DataW.trod_int Tryz.underlying5 h2;obtain ⟨x3, e3, _, w3⟩ := DataW.trod_int Tryz.underlying3 h3;obtain ⟨x4, e4, _, w4⟩ := DataW.trod_int Tryz.underlying3 h4;obtain ⟨x5, e5, _, w5⟩ := DataW.trod_int Tryz.underlying41 h5;obtain ⟨ka, kl, kc, zs, e6, w6, w9⟩ := zHb h6;obtain ⟨x7, e7, _, w7⟩ := DataW.trod_int Tryz.underlying3 h7;obtain ⟨x8, e8, _, w8⟩ := DataW.trod_int Tryz.underlying3 h8;simp at e0 e1 e2 e3 e4 e5 e6 e7 e8;subst e0 e1 e2 e3 e4 e5 e6 e7 e8;exact ⟨⟨x0, x1, x2, x3, x4, x5, ka, kl, kc, zs, x7, x8⟩, rfl, ⟨w0, w1, w2, w3, w4, w5, w6, w9, w7, w8⟩⟩
def Jz (w : World) (a : Option Addr) (len cap : Nat) (l : List jF) : Prop :=
 len <= cap /\ cap <= maxLen /\ l.length = len /\ (len = 0 \/ ∃ b o, a = some ⟨b, o, none⟩ /\ b < w.heap.size /\ ∀ i (h : i < l.length), (∀ j, j < 9 -> w.cell? ⟨b, o + i * 9 + j, none⟩ = (l[i]'h).cells[j]?) /\ (l[i]'h).Ok w)
set_option maxRecDepth 10000 in
theorem zIo {fuel : Nat} {cs : List Value} {x : DataW H × List MemPlace} (h : DataW.trod enc Tryz.prog W base (fun _ => true) held fuel 22 cs = some x) :
   ∃ a l c zs, cs = [.slice a l c] /\ Jz W a l c zs := by
 have hc9 : Tryz.prog.cellsOf 44 = 9 := by kernel_rfl
 rcases Deep.open_slice Tryz.underlying22 h with ⟨rfl, _⟩ | ⟨a, len, cap, m, n, D, Pl, rfl, hb, hl, hm, hmm, _, hi⟩
 · exact ⟨none, 0, 0, [], rfl, ⟨Nat.le_refl _, Nat.zero_le _, rfl, .inl rfl⟩⟩
 · simp at hmm;subst hmm;rw [hc9] at hi;have each : ∀ i, i < len -> ∃ y : jF, (∀ j, j < 9 -> W.cell? ((a.add (i * 9)).add j) = y.cells[j]?) /\ y.Ok W := fun i hil => by
     obtain ⟨cs', h1, h2⟩ := hi i (by omega);obtain ⟨_, h3, h4⟩ := World.cells?_some h1;obtain ⟨y, e, ok⟩ := zCv h2;exact ⟨y, fun j hj => by rw [h4 j hj, e]; simp, ok⟩
   obtain ⟨f, hf⟩ := Deep.choose_lt (α := jF) (p := fun i y => (∀ j, j < 9 -> W.cell? ((a.add (i * 9)).add j) = y.cells[j]?) /\ y.Ok W) each;refine ⟨some a, len, m, (List.range len).map f, rfl, ⟨hl, hm, by simp, ?_⟩⟩;by_cases h0 : len = 0
   · exact .inl h0
   · have hc0 := (hf 0 (by omega)).1 0 (by omega);rw [Deep.add_add] at hc0;have hs := Xw (Uw (v := .int .u8 (f 0).do_) hc0);refine .inr ⟨a.block, a.off, congrArg some (jJ hs 0).1, ?_, fun i hil => ?_⟩
     · rw [(jJ hs _).2] at hc0;exact Qq (v := .int .u8 (f 0).do_) hc0
     · simp only [List.length_map, List.length_range] at hil;have := hf i hil;simp only [List.getElem_map, List.getElem_range];refine ⟨fun j hj => ?_, this.2⟩;rw [<- this.1 j hj, Deep.add_add, (jJ hs _).2, Nat.add_assoc]
end
theorem Uf.keep {w w' : World} {a : Option Addr} {len cap : Nat} {zs : List Bool} (h : Uf w a len cap zs) (hb : Below w.heap.size w w') : Uf w' a len cap zs := by
 obtain ⟨h1, h2, h3⟩ := h;refine ⟨h1, h2, ?_⟩;rcases h3 with h3 | ⟨b, o, rfl, h3⟩
 · exact .inl h3
 · exact .inr ⟨b, o, rfl, fun i hi => Go.Proofs.YtndhmidgnpobjaaGreatDoor.keep hb (h3 i hi)⟩
theorem jF.Ok.stay {w w' : World} {x : jF} (h : x.Ok w) (hb : Below w.heap.size w w') : x.Ok w' :=
 ⟨h.do_, h.kind, h.byte, h.no, h.n, h.long, h.keep.keep hb, fun b o e hl => Nat.lt_of_lt_of_le (h.old b o e hl) hb.size, h.torn, h.bytes⟩
theorem Jz.keep {w w' : World} {a : Option Addr} {len cap : Nat} {l : List jF} (h : Jz w a len cap l) (hb : Below w.heap.size w w') : Jz w' a len cap l := by
 obtain ⟨h1, h2, h3, h4⟩ := h;refine ⟨h1, h2, h3, ?_⟩;rcases h4 with h4 | ⟨b, o, rfl, hbz, h4⟩
 · exact .inl h4
 · refine .inr ⟨b, o, rfl, Nat.lt_of_lt_of_le hbz hb.size, fun i hi => ⟨fun j hj => ?_, (h4 i hi).2.stay hb⟩⟩;rw [hb.cell (p := ⟨b, o + i * 9 + j, none⟩) hbz];exact (h4 i hi).1 j hj
def FewA (l : List jF) : Prop := l.length <= 60 /\ ∀ i (h : i < l.length), (l[i]'h).kl <= 1000
def zJp (w W : World) (l : List jF) (e : Ending) : Prop := w = W /\ ((e = .returned (.bool true) /\ FewA l) \/ e = .returned (.bool false))
theorem zJ3 {w : World} {l : List jF} : zJp w w l (.returned (.bool false)) := ⟨rfl, .inr rfl⟩
set_option maxRecDepth 100000 in
theorem zMw (w : World) (a : Option Addr) (len cap : Nat) (l : List jF) (h : Jz w a len cap l) :
   Calls Tryz.prog 12 #[.slice a len cap] w fun e w' => zJp w w' l e := by
 obtain ⟨h1, h2, h3, h4⟩ := h;unfold maxLen at h2;have hlen : len <= 9223372036854775807 := by omega
 replace h3 := Lh h3;replace h4 := Lh h4;go_enter Tryz.func12, Tryz.ntmps12;go_wp2;go_loop [3] (fun i => ∃ k : Nat, k <= len /\ k <= 60 /\ i = .int .i64 k /\ ∀ j (hj : j < l.length), j < k -> (l[j]'hj).kl <= 1000) (fun i => len - (intOf i).toNat)
 case atStart => exact ⟨0, by omega, by omega, rfl, fun _ _ h => by omega⟩
 case round =>
   obtain ⟨k, hk, hk3, rfl, hok⟩ := hrel;replace hok := Lh hok;by_cases hlt : k < len
   · rcases h4.out with h | ⟨b, o, rfl, hb, hc⟩
     · omega
     have hkl : k < l.length := by rw [h3.out]; exact hlt
     obtain ⟨hcell, hx⟩ := hc k hkl;have c3 := hcell 6 (by omega);have hx5 := hx.keep.1;have hx6 := hx.keep.2.1;unfold maxLen at hx6;obtain ⟨y, hy⟩ : ∃ y, y = l[k]'hkl := ⟨_, rfl⟩
     rw [<- hy] at c3 hx5 hx6;replace hy := Lh hy;obtain ⟨x0, x1, x2, x3, x4, x5, ka, kl, kc, zs, x7, x8⟩ := y;simp only [jF.cells, List.getElem?_toArray, List.getElem?_cons_succ, List.getElem?_cons_zero] at c3 hx5 hx6;clear hcell hx hc;by_cases g1 : 60 <= k
     · go_wp2;go_ret;exact zJ3
     · by_cases g2 : 1000 < kl
       · go_wp2;go_ret;exact zJ3
       · go_wp2;go_round
         case rel =>
           refine ⟨k + 1, by omega, by omega, by go_num, fun j hj hjk => ?_⟩;by_cases e : j = k
           · subst e;rw [<- hy.out];simp only; omega
           · exact hok.out j hj (by omega)
         case measure => simp [intOf]; omega
   · obtain rfl : k = len := by omega
     go_wp2;go_ret;exact ⟨rfl, .inl ⟨rfl, by rw [h3.out]; exact hk3, fun i hi => hok.out i hi (by have := h3.out; omega)⟩⟩
def rl (b n k : Nat) : List UInt8 := (List.range n).map fun i => if i < k then UInt8.ofNat ((b + i) % 256) else 0
theorem zBb (b n k : Nat) : (rl b n k).length = n := by simp [rl]
theorem zM5 (b n k : Nat) (hk : k < n) : (rl b n k).set k (UInt8.ofNat ((b + k) % 256)) = rl b n (k + 1) := by
 refine List.ext_getElem (by simp [rl]) fun j h1 h2 => ?_
 simp only [rl, List.getElem_set, List.getElem_map, List.getElem_range];by_cases e : k = j
 · subst e; simp
 · rw [if_neg e];by_cases h : j < k
   · rw [if_pos h, if_pos (by omega)]
   · rw [if_neg h, if_neg (by omega)]
theorem zKe (b k : Nat) : ((UInt8.ofNat ((b + k) % 256)).toNat : Int) = (((b + k) % 256 : Nat) : Int) := by
 simp
def Rm (b n : Nat) : ByteArray := zAz (rl b n n)
def jF.room (x : jF) : ByteArray := Rm x.byte.toNat (x.long % 500).toNat
set_option maxRecDepth 10000 in
set_option maxHeartbeats 1000000 in
theorem zJf (x : jF) (w : World) (hb : (Lit.int .u8 x.byte).wf = true) (hl : (Lit.int .u16 x.long).wf = true) : Calls Tryz.prog 19 #[.agg x.cells] w fun e w' => e = .returned (.string x.room) /\ Below w.heap.size w w' := by
 have r0 := zGq hb;have r1 := zO5 hl;obtain ⟨b, hbe⟩ : ∃ b : Nat, x.byte = (b : Int) := ⟨x.byte.toNat, by omega⟩
 obtain ⟨n, hne⟩ : ∃ n : Nat, x.long % 500 = (n : Int) := ⟨(x.long % 500).toNat, by omega⟩
 have hn5 : n < 500 := by omega
 have hR : Hid (x.room = Rm b n) := Lh (by unfold jF.room; rw [hbe, hne]; rfl);obtain ⟨T, hT⟩ : ∃ T, T = x.room := ⟨_, rfl⟩
 rw [<- hT] at hR ⊢;obtain ⟨x0, x1, x2, x3, x4, x5, ka, kl, kc, zs, x7, x8⟩ := x;simp only at hbe hne hb hl r0 r1;subst hbe;have u1 : IntKind.i64.wrap x5 = x5 := by rw [IntKind.wrap_i64]; omega
 clear hT hb hl;have HM : ∀ w, (Instr.makeSlice 99 (.int .i64 (n : Int)) (.int .i64 (n : Int))).run Tryz.prog w = _ := fun w => run_make_row' (P := Tryz.prog) 99 5 (.int .u8 0) 1 Tryz.underlying99 zGd rfl .i64 .i64 n (by omega) (by omega) w
 have O0 := Own.made w 44 (jF.cells ⟨x0, x1, (b : Int), x3, x4, x5, ka, kl, kc, zs, x7, x8⟩);have L0 : Below w.heap.size w (w.alloc (.cells (jF.cells ⟨x0, x1, (b : Int), x3, x4, x5, ka, kl, kc, zs, x7, x8⟩) 44)) := (Below.refl _ _).alloc (Nat.le_refl _) _;obtain ⟨C, hC⟩ : ∃ C, C = jF.cells ⟨x0, x1, (b : Int), x3, x4, x5, ka, kl, kc, zs, x7, x8⟩ := ⟨_, rfl⟩
 have hC2 : C[2]? = some (.int .u8 (b : Int)) := by rw [hC]; rfl
 have hC5 : C[5]? = some (.int .u16 x5) := by rw [hC]; rfl
 rw [<- hC] at O0 L0 ⊢;clear hC;go_enter Tryz.func19, Tryz.ntmps19;go_upto_region 1 with fail;go_name_world W1 hW1;rw [hW1] at O0 L0;have z1 : W1.heap.size = w.heap.size + 1 := by rw [<- hW1]; simp
 clear hW1;have B2 := zF4 W1 5 n;have L2 : Below w.heap.size w (W1.alloc (.cells (madeCells #[.int .u8 0] n) 5)) := L0.alloc L0.size _;have O2 := O0.more (.cells (madeCells #[.int .u8 0] n) 5);have e0 : List.replicate n (0 : UInt8) = rl b n 0 := by
   unfold rl;simp only [Nat.not_lt_zero, if_false, List.map_const', List.length_range]
 rw [e0] at B2;have f5 := (O0.at_.1 5).trans hC5;have HM1 := HM W1;clear HM e0;replace z1 := Lh z1;go_upto_region 2 with fail;clear hne;go_name_world W2 hW2;rw [hW2] at B2 L2 O2;clear hW2 HM1 f5 O0 L0;replace B2 := Lh B2;replace L2 := Lh L2;replace O2 := Lh O2;go_upto_region 3 with fail;go_loopw [4] (fun i wr => ∃ k : Nat, k <= n /\ i = .int .i64 k /\ xA wr W1.heap.size (rl b n k) /\ Own wr w.heap.size 44 C /\ Below w.heap.size w wr) (fun i wr => n - (intOf i).toNat)
 case atStart => exact ⟨0, Nat.zero_le _, rfl, B2.out, O2.out, L2.out⟩
 case round =>
   obtain ⟨k, hk, rfl, hB, hO, hL⟩ := hrel;have c2 := (hO.at_.1 2).trans hC2;by_cases hlt : k < n
   · have c1 := hB.cell k (by rw [zBb]; exact hlt);have c3 := hB.free k (by rw [zBb]; exact hlt);have l1 : (k : Int) < (n : Int) := by omega
     replace hB := Lh hB;replace hO := Lh hO;replace hL := Lh hL;go_wp2;go_roundw
     case rel =>
       refine ⟨k + 1, by omega, by go_num, ?_, hO.out.apart (by have := z1.out; omega) _ _, hL.out.setCell (by show w.heap.size <= W1.heap.size; have := z1.out; omega) _⟩;have e : (((b : Int) + (k : Int) % 256) % 256) = ((UInt8.ofNat ((b + k) % 256)).toNat : Int) := by rw [zKe]; omega
       have e2 : (((b : Int) + (k : Int)) % 256) = ((UInt8.ofNat ((b + k) % 256)).toNat : Int) := by rw [zKe]; omega
       first | rw [e] | rw [e2]
       rw [<- zM5 b n k hlt];exact hB.out.store k (by rw [zBb]; exact hlt) _
     case measure => simp [intOf]; omega
   · obtain rfl : k = n := by omega
     have HC := zEe Tryz.prog wr 99 9 5 W1.heap.size k (rl b k k) hB Tryz.underlying99 Tryz.underlying5 Tryz.underlying9;rw [zBb] at HC;change _ = Result.ok (Value.string (Rm b k)) _ at HC;rw [<- hR.out] at HC;clear hB;replace hL := Lh hL;go_wp2;go_ret;exact ⟨rfl, hL.out⟩
end
section
structure Std (P : PS) (R : RS) (rm k : Nat) : Prop where
 sim : Sim P R
 hold : ∃ first ts, jW P first ts
 fuse : P.s.fuse < 0
 N : P.N = 300
 ll : P.ll = 60
 room : P.room = rm
 seq : P.seq <= 1 + k
section
variable {P : PS} {R : RS} {rm k : Nat}
theorem Std.most (h : Std P R rm k) : P.most = 29 := by
 unfold PS.most;rw [h.N, h.ll]
theorem Std.up (h : Std P R rm k) : P.s.down = false := by
 obtain ⟨f, t, hh⟩ := h.hold;exact hh.up
theorem Std.more (h : Std P R rm k) {k' : Nat} (hk : k <= k') : Std P R rm k' := { h with seq := Nat.le_trans h.seq (by omega) }
theorem Std.Tlen (h : Std P R rm k) (hk : P.Ok) : P.T.length <= 29 := by
 have := Xg P.T 0 P.most hk.T.1 fun q hq => ⟨Nat.zero_le _, (hk.T.2 q hq).1⟩
 rw [h.most] at this;omega
theorem Std.count (h : Std P R rm k) (hk : P.Ok) : P.T.length = R.count := (h.sim.count hk.T.1).symm
theorem Std.only (h : Std P R rm k) {Q : PS} {R' : RS} (hQ : ∃ T, Q = { P with T := T }) (hs : Sim Q R') : Std Q R' rm k := by
 obtain ⟨T, rfl⟩ := hQ;obtain ⟨f, t, hh⟩ := h.hold;exact ⟨hs, ⟨f, t, ⟨hh.dsk, hh.used, hh.next, hh.wr, hh.up, hh.lf, hh.ff⟩⟩, h.fuse, h.N, h.ll, h.room, h.seq⟩
theorem zG7 (P : PS) (L : List (Nat × Pag)) : ∃ T, P.chg L = { P with T := T } := by
 unfold PS.chg;split
 · exact ⟨_, rfl⟩
 · exact ⟨P.T, rfl⟩
theorem qZ (P : PS) : ∃ T, P = { P with T := T } := ⟨P.T, rfl⟩
theorem al_T (P : PS) (k : Int) : ∃ T, P.al k = { P with T := T } := by
 unfold PS.al;split
 · split
   · exact qZ P
   · split
     · exact zG7 P _
     · exact qZ P
 · exact qZ P
theorem wr_T (P : PS) (no k : Int) (t : ByteArray) : ∃ T, P.wr no k t = { P with T := T } := by
 unfold PS.wr;split
 · split
   · exact zG7 P _
   · exact qZ P
 · exact qZ P
theorem zOt (P : PS) (no : Int) : ∃ T, P.freI no = { P with T := T } := by
 unfold PS.freI PS.fre;split
 · split
   · split
     · split
       · exact qZ P
       · exact zG7 P _
     · exact qZ P
   · exact qZ P
 · exact qZ P
theorem rt_T (P : PS) (i : Int) (x : Nat) : ∃ T, P.rt i x = { P with T := T } := by
 unfold PS.rt;split
 · exact zG7 P _
 · exact qZ P
theorem Std.abort (h : Std P R rm k) : Std P.abort R.abort rm k := h.only ⟨[], rfl⟩ h.sim.abort
theorem Std.al (h : Std P R rm k) (hk : P.Ok) (x : Nat) : P.alE (x : Int) = R.alE x /\ P.alN (x : Int) = R.alN x /\ Std (P.al (x : Int)) (R.al x) rm k := by
 obtain ⟨a, b, c⟩ := h.sim.al hk h.up x;exact ⟨a, b, h.only (al_T P _) c⟩
theorem Std.wr (h : Std P R rm k) (hk : P.Ok) (no : Int) (x : Nat) (t : ByteArray) (hn : 0 <= no -> no < (R.way.kinds.length : Int) -> R.way.kinds.getD no.toNat 0 ≠ 255) : P.wrE no (x : Int) t = R.wrE no (x : Int) t /\ Std (P.wr no (x : Int) t) (R.wr no (x : Int) t) rm k := by
 obtain ⟨a, b⟩ := h.sim.wr hk h.up no x t hn;exact ⟨a, h.only (wr_T P _ _ _) b⟩
theorem Std.rel (h : Std P R rm k) (hk : P.Ok) (no : Int) : P.frEI no = R.relE no /\ Std (P.freI no) (R.rel no) rm k := by
 obtain ⟨a, b⟩ := h.sim.rel hk h.up no;exact ⟨a, h.only (zOt P _) b⟩
theorem Std.rt (h : Std P R rm k) (hk : P.Ok) (i : Int) (x : Nat) (hx : x < 18446744073709551616) : P.rtE i x = R.rtE i /\ Std (P.rt i x) (R.rt i x) rm k := by
 obtain ⟨a, b⟩ := h.sim.rt hk i x hx;exact ⟨a, h.only (rt_T P _ _) b⟩
theorem Std.com (h : Std P R rm k) (hk : P.Ok) (hk2 : k <= 1000) : (60 < 9 * R.count + 1 /\ P.comE = 9 /\ Std P.com R rm (k + 1)) \/ (9 * R.count + 1 <= 60 /\ P.comE = 0 /\ Std P.com R.keep rm (k + 1)) := by
 have hT := h.Tlen hk;have hc := h.count hk;have hq := h.seq;have hll := h.ll;obtain ⟨f, t, hh⟩ := h.hold;obtain ⟨a, b⟩ := hh.comD hk (by omega) (by omega);obtain ⟨b1, b2⟩ := b h.fuse;rcases a with ⟨a1, a2, a3⟩ | ⟨a1, a2, a3⟩ | ⟨a1, a2, a3, a4, a5, a6, a7, a8, a9, a10⟩ | ⟨a1, a2, a3, a4⟩
 · rw [a1] at hc;have hc : 0 = R.count := hc;refine .inr ⟨by omega, a2, ?_⟩;rw [a3];exact { h.more (Nat.le_succ k) with sim := h.sim.keep a1 rfl rfl fun no _ => by unfold PS.view; rw [a1]; rfl }
 · refine .inl ⟨by omega, a2, ?_⟩;rw [a3];exact h.more (Nat.le_succ k)
 · refine .inr ⟨by omega, a3, h.sim.keep a4 (by unfold PS.most; rw [a5, a6]) a7 a9, a10, by rw [b2]; exact h.fuse, a5.trans h.N, a6.trans h.ll, a7.trans h.room, by omega⟩
 · exact absurd a3 b1
theorem Std.ck (h : Std P R rm k) (hk : P.Ok) (hk2 : k <= 1000) : (0 < R.count /\ P.ckE = 17 /\ Std P.ck R rm (k + 1)) \/ (R.count = 0 /\ P.ckE = 0 /\ Std P.ck R rm (k + 1)) := by
 have hc := h.count hk;have hq := h.seq;obtain ⟨f, t, hh⟩ := h.hold;by_cases c : P.T = []
 · have e1 : P.ckE = P.empR.1 := by unfold PS.ckE; rw [if_neg (by rw [hh.ff, c]; simp)]
   have e2 : P.ck = PS.told P.empR.1 P.emp := by unfold PS.ck; rw [if_neg (by rw [hh.ff, c]; simp)]
   obtain ⟨a, n1, n2, n3, n4, n5, b⟩ := hh.ckD hk (by omega);obtain ⟨b1, b2⟩ := b h.fuse;rw [c] at hc;have hc : 0 = R.count := hc;rw [e1, e2];rcases a with ⟨a1, a2, a3⟩ | ⟨a1, -⟩
   · exact .inr ⟨hc.symm, a1, h.sim.turn n4 (by unfold PS.most; rw [n1, n2]) n3 n5, a2, by rw [b2]; exact h.fuse, n1.trans h.N, n2.trans h.ll, n3.trans h.room, by omega⟩
   · omega
 · have e1 : P.ckE = 17 := by unfold PS.ckE; rw [if_pos (.inr c)]
   have e2 : P.ck = P := by unfold PS.ck; rw [if_pos (.inr c)]
   have := List.length_pos_iff.2 c;rw [e1, e2];exact .inl ⟨by omega, rfl, h.more (Nat.le_succ k)⟩
end
section
variable {w0 W W' : World} {C d p r c S rm k : Nat} {P P' : PS} {R : RS}
theorem Two.commit' (h : Two w0 W C d p r c S P R) (hs : Std P R rm k) (hk2 : k <= 1000) (hc : c + 10000 < 1000000) : Calls Tryz.prog 22 #[.pointer (some ⟨p, 0, none⟩)] W fun e w' => e = .returned (.int .i64 P.comE) /\ Two w0 w' C d p r (c + 29) S P.com R /\ vQ C W w' := by
 obtain ⟨f, t, hh⟩ := hs.hold;have hq := hs.seq;have hT := hs.Tlen h.ok;exact (h.commit hh.ff hh.up hh.lf (by omega) (by rw [hh.wr]; exact Nat.zero_le _) (by omega) hc).mono fun e w' ⟨a1, a2, a3⟩ => ⟨a1, a2.more (by omega), a3⟩
theorem Two.check' (h : Two w0 W C d p r c S P R) (hs : Std P R rm k) (hk2 : k <= 1000) : Calls Tryz.prog 24 #[.pointer (some ⟨p, 0, none⟩)] W fun e w' => e = .returned (.int .i64 P.ckE) /\ Two w0 w' C d p r c S P.ck R /\ vQ C W w' := by
 obtain ⟨f, t, hh⟩ := hs.hold;have hq := hs.seq;exact h.check hh.ff hh.up hh.lf (by omega) (by rw [hh.wr]; exact Nat.zero_le _)
theorem Two.open_ (h : Two w0 W C d p r c S P R) (hs : Std P R rm k) : Calls Tryz.prog 15 #[.pointer (some ⟨d, 0, none⟩), .int .i64 (rm : Int)] W fun e w' => ∃ q, e = .returned (.tuple #[.pointer (some ⟨q, 0, none⟩), .int .i64 0]) /\ Two w0 w' C d q r 2 S P.abort R /\ vQ C W w' := by
 obtain ⟨f, t, hh⟩ := hs.hold;obtain ⟨Bp, h1, h2⟩ := h.pag;have hk := h1.ok;have ho := hh.opened hk rm;obtain ⟨sb, mb, sc, wv, hD, b1, b2, b3, b4⟩ := h1.disk;have hr := hs.room;refine (Vg hD hh.up b1 b2 b3 b4 rm (by rw [<- hr]; exact hk.r2) (by rw [<- hr]; exact hk.r6)).mono ?_;rintro e w' ⟨⟨Q, q, Bq, hQ, rfl, hBq, hA⟩ | ⟨hn, -⟩, hb⟩
 · rw [ho] at hQ;injection hQ with hQ;have eQ : Q = P.abort := by
     rw [<- hQ];show ({ P with room := rm, T := [] } : PS) = { P with T := [] }
     rw [<- hr]
   subst eQ;have hm := h.mem hb;exact ⟨q, rfl, ⟨⟨Bq, hA, by have := h.hi; have := h.low; omega⟩, hm.ref, hm.sure, h.lt, h.low, hm.hi, hm.below⟩, Ji hb⟩
 · rw [ho] at hn; cases hn
theorem Two.told (h : Two w0 W C d p r c S P R) (hs : Std P R rm k) (hc : c + 200 < 1000000) : Calls Tryz.prog 16 #[.pointer (some ⟨p, 0, none⟩)] W fun e w' => (∃ ka kn kc ra rn rc, e = .returned (.tuple #[.agg (stC (.slice ka kn kc) (.slice ra rn rc) (.slice none 0 0) P.root), .bool true]) /\ vU w' W.heap.size (.slice ka kn kc) (.slice ra rn rc) (.slice none 0 0) ⟨P.kindL P.used, P.roomL P.used, [], P.root⟩) /\ Two w0 w' C d p r (c + 200) S P R /\ vQ C W w' := by
 obtain ⟨Bp, h1, h2⟩ := h.pag;have hu := h1.ok.used;have hm := hs.most;refine (zMb h1 hs.up hs.sim.way.read 200 (by omega) hc).mono ?_;rintro e w' ⟨⟨vk, vr, rfl, hst⟩, a2, a3⟩;obtain ⟨ka, kc, e1, -, -⟩ := zO hst.k;obtain ⟨ra, rc, e2, -, -⟩ := zO hst.r;subst e1 e2;exact ⟨⟨ka, _, kc, ra, _, rc, rfl, hst⟩, h.ask h1 h2 ⟨a2, a3⟩⟩
theorem zLa {B1 B2 : Nat} {vk vr vf uk ur uf : Value} (hs : Std P R rm k) (h : vU W B1 vk vr vf ⟨P.kindL P.used, P.roomL P.used, [], P.root⟩) (hr : vU W B2 uk ur uf R.way) : Calls Tryz.prog 27 #[.agg (stC vk vr vf P.root), .agg (stC uk ur uf R.way.roots)] W fun e w' => e = .returned (.bool true) /\ Below W.heap.size W w' := by
 have := zKk h hr (by simp [PS.roomL, PS.kindL]) hs.sim.way.kr;rw [zB9 hs.sim.way.same] at this;exact this
theorem Two.dirty (h : Two w0 W C d p r c S P R) (hs : Std P R rm k) : Calls Tryz.prog 36 #[.pointer (some ⟨p, 0, none⟩)] W fun e w' => e = .returned (.int .i64 (R.count : Int)) /\ Below W.heap.size W w' := by
 obtain ⟨Bp, h1, h2⟩ := h.pag;have := Jp h1;rw [hs.count h1.ok] at this;exact this
theorem Two.most (h : Two w0 W C d p r c S P R) (hs : Std P R rm k) : Calls Tryz.prog 38 #[.pointer (some ⟨p, 0, none⟩)] W fun e w' => e = .returned (.int .i64 (R.most : Int)) /\ Below W.heap.size W w' := by
 obtain ⟨Bp, h1, h2⟩ := h.pag;have := Zy h1;rw [<- hs.sim.most] at this;exact this
theorem Two.pages (h : Two w0 W C d p r c S P R) (hs : Std P R rm k) (hc : c + 2 < 1000000) : Calls Tryz.prog 37 #[.pointer (some ⟨p, 0, none⟩)] W fun e w' => e = .returned (.int .i64 (R.way.kinds.length : Int)) /\ (∃ B, Chg (Po.PT W B) W w') /\ Two w0 w' C d p r (c + 2) S P R := by
 obtain ⟨Bp, h1, h2⟩ := h.pag;have := gO h1 hs.up hc;rw [hs.sim.way.used] at this;exact this.mono fun e w' ⟨a1, a2⟩ => ⟨a1, ⟨Bp, a2.2⟩, (h.ask h1 h2 a2).1⟩
def RS.rdE (R : RS) (no : Int) : Int := if no < 0 \/ (R.way.kinds.length : Int) <= no then 1 else 0
theorem Two.read (h : Two w0 W C d p r c S P R) (hs : Std P R rm k) (no : Int) (hc : c + 4 < 1000000) : Calls Tryz.prog 39 #[.pointer (some ⟨p, 0, none⟩), .int .i64 no] W fun e w' => (∃ x t, e = .returned (.tuple #[.int .i64 x, .string t, .int .i64 (R.rdE no)])) /\ Two w0 w' C d p r (c + 4) S P R /\ vQ C W w' := by
 obtain ⟨Bp, h1, h2⟩ := h.pag;have hu := hs.sim.way.used;unfold RS.rdE;by_cases c1 : no < 0
 · rw [if_pos (.inl c1)];exact (zKt p no c1 W).mono fun e w' ⟨a1, a2⟩ => ⟨⟨_, _, a1⟩, a2 ▸ ⟨h.more (by omega), vQ.refl _ _⟩⟩
 · by_cases c2 : (R.way.kinds.length : Int) <= no
   · rw [if_pos (.inr c2)];exact (zJk h1 hs.up no (by rw [hu]; exact c2) (by omega)).mono fun e w' ⟨a1, a2⟩ => ⟨⟨_, _, a1⟩, (h.ask h1 h2 a2).1.more (by omega), (h.ask h1 h2 a2).2⟩
   · rw [if_neg (by omega)];have en : ((no.toNat : Nat) : Int) = no := Int.toNat_of_nonneg (by omega);have := zGf h1 hs.up no.toNat (by rw [hu]; omega) hc;rw [en] at this;have hz := hs.sim.way.read no.toNat (by rw [hu]; omega);refine this.mono fun e w' ⟨a1, a2⟩ => ⟨⟨((P.view no.toNat).1.1 : Int), (P.view no.toNat).1.2, ?_⟩, h.ask h1 h2 a2⟩
     rw [a1];unfold rdV;rw [hz];rfl
end
theorem zHj {w0 W W' : World} {d p r rm Bp : Nat} {P : PS} (hb0 : Below w0.heap.size w0 W) (hA : zG W w0.heap.size Bp d p 2 P) (hBp : w0.heap.size <= Bp) (hn : qM P 300 60 rm) (hD : Dsk P.N P.ll P.s P.seq 1 [] P.M) (hr : gI W' W.heap.size r (rs0 29 rm)) (hb : Below W.heap.size W W') : ∃ S C, Two w0 W' C d p r 2 S P (rs0 29 rm) /\ Std P (rs0 29 rm) rm 0 /\ C <= W'.heap.size := by
 obtain ⟨S, hS, hl⟩ := hA.sureB;obtain ⟨n, cc, hs⟩ := hS;have z := hb0.size;have hk := hA.ok;exact ⟨S, W.heap.size, ⟨⟨Bp, hA.below hb, hBp⟩, hr, ⟨n, cc, (Chg.of (S := fun _ => False) hb).cell hs id⟩, hl, z, hb.size, then_ hb0 hb z⟩,
   ⟨hn.sim hk (by decide) (by decide), ⟨1, [], hn.hold hk hD⟩, hn.fuse, hn.N, hn.ll, hn.room, by rw [hn.seq]; exact Nat.le_refl _⟩, hb.size⟩
theorem zO0 {w : World} {B d N ll : Nat} {s : St} (h : gF w B d N s) (hF : zFv s ll) (h10 : 10 <= ll) (hN : ll + 10 <= N) (r : Nat) (h2 : 2 <= r) (h6 : r <= 65536) : Calls Tryz.prog 15 #[.pointer (some ⟨d, 0, none⟩), .int .i64 (r : Int)] w fun e w' => ∃ P p Bp, e = .returned (.tuple #[.pointer (some ⟨p, 0, none⟩), .int .i64 0]) /\ qM P N ll r /\ Dsk P.N P.ll P.s P.seq 1 [] P.M /\ zG w' B Bp d p 2 P /\ w.heap.size <= Bp /\ Below w.heap.size w w' := by
 have hok := h.ok;have hsd := Sd.of hok;obtain ⟨sb, mb, sc, wv, hD, b1, b2, b3, b4⟩ := h;obtain ⟨f1, f2, f3, s0, hv⟩ := hF;obtain ⟨o1, o2, o3⟩ := zG3 (s := s0) f1 h10 hN hok.max r hv;refine (Vg hD f1 b1 b2 b3 b4 r h2 h6).mono ?_;rintro e w' ⟨⟨P, p, Bp, hP, rfl, hBp, hA⟩ | ⟨hn, -⟩, hb⟩
 · rw [o1] at hP;injection hP with hP;subst hP;exact ⟨_, p, Bp, rfl, ⟨rfl, rfl, rfl, rfl, o3, rfl, rfl, rfl, f1, f3, o2, f2⟩, zM2 (s := s0) hsd h10 hN hok.max hv, hA, hBp, hb⟩
 · rw [o1] at hn; cases hn
end
section
def Pre (w0 W : World) (C d p r S rm k : Nat) : Prop := ∃ P R, Two w0 W C d p r (2 + 300 * k) S P R /\ Std P R rm k
def Mid (w0 W : World) (C d p r S rm k x : Nat) (cs : Array Value) : Prop := ∃ P R, Two w0 W C d p r (42 + 300 * k) S P R /\ Std P R rm (k + 1) /\ Own W x 44 cs
section
variable {w0 W W' : World} {C d p r c S rm k x : Nat} {P : PS} {R : RS} {cs : Array Value}
theorem Pre.below (h : Pre w0 W C d p r S rm k) : Below w0.heap.size w0 W := by
 obtain ⟨P, R, h, -⟩ := h;exact h.below
theorem Mid.of (h : Two w0 W C d p r c S P R) (hs : Std P R rm k) (hc : c <= 42 + 300 * k) (ho : Own W x 44 cs) : Mid w0 W C d p r S rm k x cs := ⟨P, R, h.more hc, hs.more (Nat.le_succ k), ho⟩
theorem Mid.of' (h : Two w0 W C d p r c S P R) (hs : Std P R rm (k + 1)) (hc : c <= 42 + 300 * k) (ho : Own W x 44 cs) : Mid w0 W C d p r S rm k x cs := ⟨P, R, h.more hc, hs, ho⟩
theorem Pre.next (h : Two w0 W C d p r c S P R) (hs : Std P R rm k) (hc : c <= 302 + 300 * k) {k' : Nat} (hk : k' = k + 1) : Pre w0 W C d p r S rm k' := by
 subst hk;exact ⟨P, R, h.more (by omega), hs.more (Nat.le_succ k)⟩
theorem Pre.next' (h : Two w0 W C d p r c S P R) (hs : Std P R rm (k + 1)) (hc : c <= 302 + 300 * k) {k' : Nat} (hk : k' = k + 1) : Pre w0 W C d p r S rm k' := by
 subst hk;exact ⟨P, R, h.more (by omega), hs⟩
theorem Zr {B : Nat} (h : gI W B r R) : ∃ sk sr sf ka kc wr wf vd, Own W r 61 #[.int .i64 (R.most : Int), .int .i64 (R.room : Int), sk, sr, sf, .int .u64 (R.sure.roots 0 : Int), .int .u64 (R.sure.roots 1 : Int), .int .u64 (R.sure.roots 2 : Int), .int .u64 (R.sure.roots 3 : Int), .int .u64 (R.sure.roots 4 : Int), .int .u64 (R.sure.roots 5 : Int), .int .u64 (R.sure.roots 6 : Int), .int .u64 (R.sure.roots 7 : Int), .slice ka R.way.kinds.length kc, wr, wf, .int .u64 (R.way.roots 0 : Int), .int .u64 (R.way.roots 1 : Int), .int .u64 (R.way.roots 2 : Int), .int .u64 (R.way.roots 3 : Int), .int .u64 (R.way.roots 4 : Int), .int .u64 (R.way.roots 5 : Int), .int .u64 (R.way.roots 6 : Int), .int .u64 (R.way.roots 7 : Int), vd] /\ vU W B (.slice ka R.way.kinds.length kc) wr wf R.way := by
 obtain ⟨sk, sr, sf, wk, wr, wf, vd, h⟩ := h;have hw := h.way;have ho := h.own;obtain ⟨ka, kc, rfl, -, -⟩ := zO hw.k;exact ⟨sk, sr, sf, ka, kc, wr, wf, vd, ho, hw⟩
theorem zC6 {B n : Nat} {ka : Option Addr} {kc : Nat} {wr wf : Value} {s : RSt} (h : vU W B (.slice ka n kc) wr wf s) (j : Nat) (hj : j < s.kinds.length) : ∃ g, ka = some ⟨g, 0, none⟩ /\ W.cell? ⟨g, j, none⟩ = some (.int .i64 ((s.kinds.getD j 0 : Nat) : Int)) := by
 obtain ⟨a, cp, e, hn, hk⟩ := zO h.k;injection e with e1 e2 e3;obtain ⟨g, hg, -, hc, -⟩ := hk j (by simpa [yE] using hj);refine ⟨g, e1.trans hg, ?_⟩;rw [hc];simp [yE, List.getD_eq_getElem?_getD, List.getElem?_eq_getElem hj]
theorem zKz {B : Nat} (hc : Chg (Po.PT W B) W W') {y : Nat} {cs : Array Value} (h : Own W y 38 cs) : Own W' y 38 cs := yX hc h (by decide) (by decide)
theorem zJj {B : Nat} (hc : Chg (Po.PT W B) W W') {y : Nat} {cs : Array Value} (h : Own W y 61 cs) : Own W' y 61 cs := yX hc h (by decide) (by decide)
end
end
end Go.Proofs.YtndhmidgnpobjaaGreatDoor
namespace Go.Proofs.YtndhmidgnpobjaaGreatDoor.pagerPlays
open Go.ChangeShapes Go.WideShapes Go.ChangeAt Go.RowKit
open Go.ChangeMaps (open_string shut_string)
set_option maxHeartbeats 16000000 in
set_option maxRecDepth 100000 in
theorem walk (a0 : Int) (a1 : Option Addr) (len1 cap1 : Nat) (z1 : List jF) (w : World) (w0 : (Lit.int .u8 a0).wf = true) (w1 : Jz w a1 len1 cap1 z1) :
   Calls Tryz.prog 4 #[.int .u8 a0, .slice a1 len1 cap1] w fun e w' => e = .returned (.bool true) ∧ Below w.heap.size w w' := by
 obtain ⟨ra1, ra2⟩ := zGq w0;have hw1 := w1;obtain ⟨hl1, hl2, hl3, hl4⟩ := w1;unfold maxLen at hl2;have hlen : len1 ≤ 9223372036854775807 := by omega
 replace hw1 := Lh hw1;replace hl3 := Lh hl3;replace hl4 := Lh hl4;obtain ⟨q0, hq0⟩ : ∃ q0 : Nat, a0 % 40 = (q0 : Int) := ⟨(a0 % 40).toNat, by omega⟩
 have hq4 : q0 < 40 := by omega
 obtain ⟨rm, hrm⟩ : ∃ rm : Nat, rm = 2 + q0 := ⟨_, rfl⟩
 have hrm2 : 2 ≤ rm := by omega
 have hrm6 : rm ≤ 65536 := by omega
 have urm : 2 + (q0 : Int) = (rm : Int) := by omega
 replace hrm := Lh hrm;have AW := Lh (fun W => zMi W);go_enter Tryz.func4, Tryz.ntmps4;go_wp2_with fail;refine (AW.out _).mono ?_;rintro e w1 ⟨rfl, b1⟩;go_wp2_with fail;refine (zMw w1 a1 len1 cap1 z1 (hw1.out.keep b1)).mono ?_;rintro e w' ⟨rfl, ⟨rfl, hf⟩ | rfl⟩;rotate_left
 · go_wp2_with fail;refine (AW.out _).mono ?_;rintro e w2 ⟨rfl, b2⟩;go_wp2_with fail;go_ret;exact ⟨rfl, then_ b1 b2 b1.size⟩
 replace hf := Lh hf;replace b1 := Lh b1;have zb1 := Lh b1.out.size;go_upto_region 4 with (go_at_call 13; refine (zOf 300 (by decide) (by decide) w1).mono ?_; rintro e w2 ⟨d, rfl, hd2, hb2⟩; have D2 := Lh hd2; have B2 := Lh hb2; clear hd2 hb2)
 have FO := Lh (zOe (ll := 60) D2.out rfl (show (-1 : Int) < 0 by decide) (Nat.zero_le _) (by decide) (by decide));go_upto_region 5 with fail;go_upto_region 7 with (go_at_call 14; refine FO.out.mono ?_; rintro e w3 ⟨rfl, hb3, s3, hF3, hd3⟩; have D3 := Lh hd3; have F3 := Lh hF3; have B3 := Lh (B2.out.trans hb3); clear hd3 hF3 hb3)
 have OO := Lh (zO0 D3.out F3.out (by decide) (by decide) rm hrm2 hrm6);go_upto_region 10 with (go_at_call 15; refine OO.out.mono ?_; rintro e w4 ⟨P, p0, Bp, rfl, hn4, hk4, hp4, hB4, hb4⟩; have P4 := Lh (And.intro hp4 (And.intro hn4 (And.intro hk4 (Nat.le_trans B3.out.size hB4)))); have B4 := Lh (then_ B3.out hb4 B3.out.size); clear hp4 hn4 hk4 hB4 hb4)
 have NR := Lh (zL2 29 rm w4 (by decide) (by omega));go_upto_region 11 with (go_at_call 28; refine NR.out.mono ?_; rintro e w5 ⟨r, rfl, hr5, hb5⟩; have R5 := Lh (zHj B4.out P4.out.1 P4.out.2.2.2 P4.out.2.1 P4.out.2.2.1 hr5 hb5); clear hr5 hb5)
 obtain ⟨S, C, hT5, hS5, -⟩ := R5.out;have I5 : Hid (Pre w1 w5 C d p0 r S rm 0) := Lh ⟨_, _, hT5, hS5⟩;clear hT5 hS5 R5 NR OO FO P4 B4 B3 F3 D3 B2 D2;go_wp2;go_loopw [8, 11] (fun v8 v11 wr => ∃ k p : Nat, k ≤ len1 ∧ v11 = .int .i64 k ∧ v8 = .pointer (some ⟨p, 0, none⟩) ∧ Pre w1 wr C d p r S rm k) (fun v8 v11 wr => len1 - (intOf v11).toNat)
 case atStart => exact ⟨0, p0, by omega, rfl, rfl, I5.out⟩
 case round =>
   clear I5;obtain ⟨k, p, hk, rfl, rfl, HI⟩ := hrel;have BI := HI.below;replace BI := then_ b1.out BI b1.out.size;replace HI := Lh HI;by_cases hlt : k < len1
   rotate_left
   · obtain rfl : k = len1 := by omega
     go_wp2;go_ret;exact ⟨rfl, BI⟩
   rcases hl4.out with h | ⟨b0, o0, rfl, hbz, hc⟩
   · omega
   have hkl : k < z1.length := by rw [hl3.out]; exact hlt
   obtain ⟨hcell, hx⟩ := hc k hkl;have hlf : len1 ≤ 60 := by have := hf.out.1; rw [hl3.out] at this; exact this
   obtain ⟨y, hy⟩ : ∃ y, y = z1[k]'hkl := ⟨_, rfl⟩
   rw [← hy] at hcell hx;clear hy hc;replace hcell := fun j hj => (BI.cell (p := ⟨b0, o0 + k * 9 + j, none⟩) hbz).trans (hcell j hj)
   have c0 := hcell 0 (by omega);have c1 := hcell 1 (by omega);have c2 := hcell 2 (by omega);have c3 := hcell 3 (by omega);have c4 := hcell 4 (by omega);have c5 := hcell 5 (by omega);have c6 := hcell 6 (by omega);have c7 := hcell 7 (by omega);have c8 := hcell 8 (by omega);obtain ⟨x0, x1, x2, x3, x4, x5, ka, kl, kc, zs, x7, x8⟩ := y;simp only [jF.cells, List.getElem?_toArray, List.getElem?_cons_succ, List.getElem?_cons_zero, Nat.add_zero] at c0 c1 c2 c3 c4 c5 c6 c7 c8;obtain ⟨v0, v1, v2, v3, v4, v5, v6, v6', v7, v8⟩ := hx;simp only at v0 v1 v2 v3 v4 v5 v6 v6' v7 v8;have r0 := zGq v0;have r1 := zGq v1;obtain ⟨r01, r02⟩ := r0;obtain ⟨r11, r12⟩ := r1;have V2 := Lh v2;have V5 := Lh v5;have r3 := zFc v3;obtain ⟨r31, r32⟩ := r3;have kz : kl ≤ kc := v6.1;clear v0 v1 v2 v3 v4 v5 v6 v6' v7 v8 hcell BI;obtain ⟨kk, rfl⟩ : ∃ kk : Nat, x1 = (kk : Int) := ⟨x1.toNat, by omega⟩
   obtain ⟨dd, hdd⟩ : ∃ dd, x0 % 9 = dd := ⟨_, rfl⟩
   have hd9 : dd = 0 ∨ dd = 1 ∨ dd = 2 ∨ dd = 3 ∨ dd = 4 ∨ dd = 5 ∨ dd = 6 ∨ dd = 7 ∨ dd = 8 := by omega
   go_upto_region 15 with fail;go_name_world W0 hW0e;have o0 : Own W0 wr.heap.size 44 #[.int .u8 x0, .int .u8 (kk : Int), .int .u8 x2, .int .i64 x3, .int .i64 x4, .int .u16 x5, .slice ka kl kc, .int .i64 x7, .int .i64 x8] := hW0e ▸ Own.made _ _ _;have hb0 : Below wr.heap.size wr W0 := hW0e ▸ (Below.refl _ _).alloc (Nat.le_refl _) _;obtain ⟨P, R, hT, hS⟩ := HI.out;have XC := Lh hT.hi;have T0 := Lh (hT.mem hb0);have S0 := Lh hS;have OK := Lh hT.ok;have ROK := Lh (hS.sim.ok hT.ok);have O0 := Lh o0;obtain ⟨q1, q2, q3⟩ := o0.at_;clear hW0e hb0 hT hS HI c0 c1 c2 c3 c4 c5 c6 c7 c8 o0;obtain ⟨sk, sr, sf, wa, wq, wr_, wf_, vd, hRO, hRW⟩ := Zr T0.out.ref;have RO := Lh hRO;have RW := Lh hRW;clear hRO hRW;have hcon : (dd = 1 ∧ 0 ≤ x3 ∧ x3 < (R.way.kinds.length : Int) ∧ R.way.kinds.getD x3.toNat 0 = 255) ∨ ¬ (dd = 1 ∧ 0 ≤ x3 ∧ x3 < (R.way.kinds.length : Int) ∧ R.way.kinds.getD x3.toNat 0 = 255) := Decidable.em _;rcases hcon with hcon | hcon
   · as_aux_lemma =>
     obtain ⟨rfl, n0, n1, n2⟩ := hcon;clear hd9;obtain ⟨j, rfl⟩ : ∃ j : Nat, x3 = (j : Int) := ⟨x3.toNat, by omega⟩
     rw [Int.toNat_natCast] at n2;obtain ⟨g, rfl, hg⟩ := zC6 RW.out j (by omega);rw [n2] at hg;obtain ⟨g1, g2, g3⟩ := RO.out.at_;have n3 : j < R.way.kinds.length := by omega
     replace n2 := Lh n2;obtain ⟨KL, hKL⟩ : ∃ KL, KL = R.way.kinds.length := ⟨_, rfl⟩
     rw [← hKL] at n1 n3 g1;replace hKL := Lh hKL;go_wp2_with (go_quiet (fail))
     go_roundw
     case rel => exact ⟨k + 1, p, by omega, by go_num, rfl, Pre.next (T0.out.mem (zJ (Below.refl _ _) _)) S0.out (by omega) rfl⟩
     case measure => simp [intOf]; omega
   have NC := Lh hcon;clear hcon;go_upto_block 2 with fail
   try rw [hdd]
   clear hdd;go_cut [8, 13] (fun v8 v13 wx => ∃ p : Nat, v8 = .pointer (some ⟨p, 0, none⟩) ∧ v13 = .bool true ∧ Mid w1 wx C d p r S rm k wr.heap.size #[.int .u8 x0, .int .u8 (kk : Int), .int .u8 x2, .int .i64 x3, .int .i64 x4, .int .u16 x5, .slice ka kl kc, .int .i64 x7, .int .i64 x8])
   case first =>
     rcases hd9 with e9 | e9 | e9 | e9 | e9 | e9 | e9 | e9 | e9
     · as_aux_lemma =>
       have t0_ : (dd == 0) = true := by rw [e9]; rfl
       clear e9;obtain ⟨e1, e2, S1⟩ := S0.out.al OK.out kk;have C1 := T0.out.alloc (kk : Int) (by omega);have C2 := fun (W : World) (c : Nat) (Q : PS) (h : Two w1 W C d p r c S Q R) => h.ralloc S0.out.sim ROK.out kk
       rw [e1, e2] at C1;obtain ⟨N, hN⟩ : ∃ N, N = R.alN kk := ⟨_, rfl⟩
       obtain ⟨E, hE⟩ : ∃ E, E = R.alE kk := ⟨_, rfl⟩
       obtain ⟨P1, hP1⟩ : ∃ P1, P1 = P.al (kk : Int) := ⟨_, rfl⟩
       obtain ⟨R1, hR1⟩ : ∃ R1, R1 = R.al kk := ⟨_, rfl⟩
       rw [← hN, ← hE, ← hP1] at C1;rw [← hN, ← hE, ← hR1] at C2;rw [← hP1, ← hR1] at S1;replace C1 := Lh C1;replace C2 := Lh C2;replace S1 := Lh S1;clear e1 e2 hN hE hP1 hR1;go_upto_region 19 with (go_at_call 17; refine C1.out.mono ?_; rintro e w3 ⟨rfl, t3, k3⟩; have T3 := Lh t3; have O3 := Lh (k3 _ _ XC.out O0.out); clear t3 k3)
       obtain ⟨q1, q2, q3⟩ := O3.out.at_;go_upto_region 20 with (go_at_call 29; refine (C2.out _ _ _ T3.out).mono ?_; rintro e w4 ⟨rfl, t4, k4⟩; have T4 := Lh t4; have O4 := Lh (k4 _ _ XC.out O3.out); clear t4 k4)
       by_cases hE : E = 10
       · subst hE;have CA := Lh (T4.out.abort);go_upto_region 23 with (go_at_call 23; refine CA.out.mono ?_; rintro e w8 ⟨rfl, t8, k8⟩; have T8 := Lh t8; have O8 := Lh (k8 _ _ XC.out O4.out); clear t8 k8)
         have CB := Lh (T8.out.rabort (S1.out.sim.ok T4.out.ok));go_wp2_with (go_at_call 30; refine CB.out.mono ?_; rintro e w9 ⟨rfl, t9, k9⟩; have T9 := Lh t9; have O9 := Lh (k9 _ _ XC.out O8.out); clear t9 k9)
         go_meet;exact ⟨p, rfl, rfl, Mid.of T9.out S1.out.abort (by omega) O9.out⟩
       · have hE' : (E == 10) = false := by rw [beq_eq_false_iff_ne]; exact hE
         go_wp2;go_meet;exact ⟨p, rfl, rfl, Mid.of T4.out S1.out (by omega) O4.out⟩
     · as_aux_lemma =>
       have t0_ : (dd == 0) = false := by rw [e9]; rfl
       have t1_ : (dd == 1) = true := by rw [e9]; rfl
       replace e9 := Lh e9;have hcn : 0 ≤ x3 → x3 < (R.way.kinds.length : Int) → R.way.kinds.getD x3.toNat 0 ≠ 255 := fun h1 h2 h3 => NC.out ⟨e9.out, h1, h2, h3⟩
       have RM := fun W => zJf ⟨x0, (kk : Int), x2, x3, x4, x5, ka, kl, kc, zs, x7, x8⟩ W V2.out V5.out
       simp only [jF.cells] at RM;obtain ⟨X, hX⟩ : ∃ X, X = jF.room ⟨x0, (kk : Int), x2, x3, x4, x5, ka, kl, kc, zs, x7, x8⟩ := ⟨_, rfl⟩
       rw [← hX] at RM;clear hX;obtain ⟨e1, S1⟩ := S0.out.wr OK.out x3 kk X hcn;have C1 := fun (W : World) (h : Two w1 W C d p r (2 + 300 * k) S P R) => h.write x3 (kk : Int) X (by omega)
       have C2 := fun (W : World) (c : Nat) (Q : PS) (h : Two w1 W C d p r c S Q R) => h.rwrite ROK.out x3 (kk : Int) X
       rw [e1] at C1;obtain ⟨E, hE⟩ : ∃ E, E = R.wrE x3 (kk : Int) X := ⟨_, rfl⟩
       obtain ⟨P1, hP1⟩ : ∃ P1, P1 = P.wr x3 (kk : Int) X := ⟨_, rfl⟩
       obtain ⟨R1, hR1⟩ : ∃ R1, R1 = R.wr x3 (kk : Int) X := ⟨_, rfl⟩
       rw [← hE, ← hP1] at C1;rw [← hE, ← hR1] at C2;rw [← hP1, ← hR1] at S1;replace C1 := Lh C1;replace C2 := Lh C2;replace S1 := Lh S1;replace RM := Lh RM;replace hcn := Lh hcn;clear e1 hE hP1 hR1;obtain ⟨g1, g2, g3⟩ := RO.out.at_;by_cases n0 : x3 < 0
       · have n1 : ¬ 0 ≤ x3 := by omega
         go_upto_region 26 with (go_quiet (fail))
         clear g1 g2 g3;skip;refine zA (fun W => Own W wr.heap.size 44 #[.int .u8 x0, .int .u8 (kk : Int), .int .u8 x2, .int .i64 x3, .int .i64 x4, .int .u16 x5, .slice ka kl kc, .int .i64 x7, .int .i64 x8]) (0 :: 1 :: 2 :: 3 :: 4 :: 5 :: 6 :: 9 :: 10 :: 11 :: 12 :: 13 :: 14 :: 15 :: 18 :: 19 :: []) (2 :: 4 :: 6 :: 11 :: 13 :: 15 :: []) (0 :: 1 :: 2 :: 3 :: 4 :: 5 :: 6 :: 9 :: 10 :: 11 :: 12 :: 13 :: 14 :: 15 :: 7 :: 8 :: 16 :: 17 :: 18 :: 19 :: []) (by kernel_rfl) (by kernel_rfl) rfl (by kernel_rfl) rfl ((O0.out.drawnN _).drawn) (by simp only [zQ, List.filterMap_cons, List.filterMap_nil, List.getElem?_cons_zero, List.getElem?_cons_succ, Option.map_some]; exact rfl) ?_;iterate 14
           refine zC (v := ?_) rfl rfl (fun W hS => ?_) ?_;rotate_left
           · first
               | (conv => lhs; simp [go_sem]
                  first | done | exact rfl)
               | (have hS := hS rfl
                  obtain ⟨q1, q2, q3⟩ := hS.at_;conv => lhs; simp [go_sem, *]
                  first | done | exact rfl)
           simp only [Act.put, lA, lZ, lS]
         refine zK rfl rfl fun K hK => ?_
         go_wp2_with (go_at_call 19; refine (RM.out _).mono ?_; rintro e w5 ⟨rfl, b5⟩)
         have O5 := Lh (((O0.out.drawnN _).drawn).keep b5);have T5 := Lh (((T0.out.mem (zJ (Below.refl W0.heap.size W0) _)).mem (Below.refl _ _).drew).mem b5);refine hK _ _ O5.out ?_;clear hK K b5;refine zK rfl rfl fun K hK => ?_
         go_wp2_with (go_at_call 18; refine (C1.out _ T5.out).mono ?_; rintro e w6 ⟨rfl, t6, k6⟩; have T6 := Lh t6; have O6 := Lh (k6 _ _ XC.out O5.out); clear t6 k6)
         refine hK _ _ O6.out ?_;clear hK K;refine zK rfl rfl fun K hK => ?_
         go_wp2_with (go_at_call 19; refine (RM.out _).mono ?_; rintro e w7 ⟨rfl, b7⟩)
         have O7 := Lh (O6.out.keep b7);have T7 := Lh (T6.out.mem b7);refine hK _ _ O7.out ?_;clear hK K b7;refine zK rfl rfl fun K hK => ?_
         go_wp2_with (go_at_call 31; refine (C2.out _ _ _ T7.out).mono ?_; rintro e w8 ⟨rfl, t8, k8⟩; have T8 := Lh t8; have O8 := Lh (k8 _ _ XC.out O7.out); clear t8 k8)
         refine hK _ _ O8.out ?_;clear hK K;iterate 2
           refine zC (v := ?_) rfl rfl (fun W hS => ?_) ?_;rotate_left
           · conv => lhs; simp [go_sem]
             first | done | exact rfl
           simp only [Act.put, lA, lZ, lS]
         refine zN ?_;go_wp2;go_meet;exact ⟨p, rfl, rfl, Mid.of T8.out S1.out (by omega) O8.out⟩
       · by_cases n1 : (R.way.kinds.length : Int) ≤ x3
         · obtain ⟨j, rfl⟩ : ∃ j : Nat, x3 = (j : Int) := ⟨x3.toNat, by omega⟩
           obtain ⟨KL, hKL⟩ : ∃ KL, KL = R.way.kinds.length := ⟨_, rfl⟩
           rw [← hKL] at n1 g1;have n3 : ¬ (j < KL) := by omega
           replace hKL := Lh hKL;go_upto_region 26 with (go_quiet (fail))
           clear g1 g2 g3;skip;refine zA (fun W => Own W wr.heap.size 44 #[.int .u8 x0, .int .u8 (kk : Int), .int .u8 x2, .int .i64 (j : Int), .int .i64 x4, .int .u16 x5, .slice ka kl kc, .int .i64 x7, .int .i64 x8]) (0 :: 1 :: 2 :: 3 :: 4 :: 5 :: 6 :: 9 :: 10 :: 11 :: 12 :: 13 :: 14 :: 15 :: 18 :: 19 :: []) (2 :: 4 :: 6 :: 11 :: 13 :: 15 :: []) (0 :: 1 :: 2 :: 3 :: 4 :: 5 :: 6 :: 9 :: 10 :: 11 :: 12 :: 13 :: 14 :: 15 :: 7 :: 8 :: 16 :: 17 :: 18 :: 19 :: []) (by kernel_rfl) (by kernel_rfl) rfl (by kernel_rfl) rfl ((O0.out.drawnN _).drawn) (by simp only [zQ, List.filterMap_cons, List.filterMap_nil, List.getElem?_cons_zero, List.getElem?_cons_succ, Option.map_some]; exact rfl) ?_;iterate 14
             refine zC (v := ?_) rfl rfl (fun W hS => ?_) ?_;rotate_left
             · first
                 | (conv => lhs; simp [go_sem]
                    first | done | exact rfl)
                 | (have hS := hS rfl
                    obtain ⟨q1, q2, q3⟩ := hS.at_;conv => lhs; simp [go_sem, *]
                    first | done | exact rfl)
             simp only [Act.put, lA, lZ, lS]
           refine zK rfl rfl fun K hK => ?_
           go_wp2_with (go_at_call 19; refine (RM.out _).mono ?_; rintro e w5 ⟨rfl, b5⟩)
           have O5 := Lh (((O0.out.drawnN _).drawn).keep b5);have T5 := Lh (((T0.out.mem (zJ (Below.refl W0.heap.size W0) _)).mem (Below.refl _ _).drew).mem b5);refine hK _ _ O5.out ?_;clear hK K b5;refine zK rfl rfl fun K hK => ?_
           go_wp2_with (go_at_call 18; refine (C1.out _ T5.out).mono ?_; rintro e w6 ⟨rfl, t6, k6⟩; have T6 := Lh t6; have O6 := Lh (k6 _ _ XC.out O5.out); clear t6 k6)
           refine hK _ _ O6.out ?_;clear hK K;refine zK rfl rfl fun K hK => ?_
           go_wp2_with (go_at_call 19; refine (RM.out _).mono ?_; rintro e w7 ⟨rfl, b7⟩)
           have O7 := Lh (O6.out.keep b7);have T7 := Lh (T6.out.mem b7);refine hK _ _ O7.out ?_;clear hK K b7;refine zK rfl rfl fun K hK => ?_
           go_wp2_with (go_at_call 31; refine (C2.out _ _ _ T7.out).mono ?_; rintro e w8 ⟨rfl, t8, k8⟩; have T8 := Lh t8; have O8 := Lh (k8 _ _ XC.out O7.out); clear t8 k8)
           refine hK _ _ O8.out ?_;clear hK K;iterate 2
             refine zC (v := ?_) rfl rfl (fun W hS => ?_) ?_;rotate_left
             · conv => lhs; simp [go_sem]
               first | done | exact rfl
             simp only [Act.put, lA, lZ, lS]
           refine zN ?_;go_wp2;go_meet;exact ⟨p, rfl, rfl, Mid.of T8.out S1.out (by omega) O8.out⟩
         · obtain ⟨j, rfl⟩ : ∃ j : Nat, x3 = (j : Int) := ⟨x3.toNat, by omega⟩
           have n2 := hcn.out (by omega) (by omega);rw [Int.toNat_natCast] at n2;obtain ⟨g, rfl, hg⟩ := zC6 RW.out j (by omega);obtain ⟨KD, hKD⟩ : ∃ KD, KD = R.way.kinds.getD j 0 := ⟨_, rfl⟩
           rw [← hKD] at n2 hg;obtain ⟨KL, hKL⟩ : ∃ KL, KL = R.way.kinds.length := ⟨_, rfl⟩
           rw [← hKL] at n1 g1;have n3 : j < KL := by omega
           have n4 : ((KD : Int) == 255) = false := by rw [beq_eq_false_iff_ne]; omega
           replace hKL := Lh hKL;replace hKD := Lh hKD;go_upto_region 26 with (go_quiet (fail))
           clear g1 g2 g3;skip;refine zA (fun W => Own W wr.heap.size 44 #[.int .u8 x0, .int .u8 (kk : Int), .int .u8 x2, .int .i64 (j : Int), .int .i64 x4, .int .u16 x5, .slice ka kl kc, .int .i64 x7, .int .i64 x8]) (0 :: 1 :: 2 :: 3 :: 4 :: 5 :: 6 :: 9 :: 10 :: 11 :: 12 :: 13 :: 14 :: 15 :: 18 :: 19 :: []) (2 :: 4 :: 6 :: 11 :: 13 :: 15 :: []) (0 :: 1 :: 2 :: 3 :: 4 :: 5 :: 6 :: 9 :: 10 :: 11 :: 12 :: 13 :: 14 :: 15 :: 7 :: 8 :: 16 :: 17 :: 18 :: 19 :: []) (by kernel_rfl) (by kernel_rfl) rfl (by kernel_rfl) rfl ((O0.out.drawnN _).drawn) (by simp only [zQ, List.filterMap_cons, List.filterMap_nil, List.getElem?_cons_zero, List.getElem?_cons_succ, Option.map_some]; exact rfl) ?_;iterate 14
             refine zC (v := ?_) rfl rfl (fun W hS => ?_) ?_;rotate_left
             · first
                 | (conv => lhs; simp [go_sem]
                    first | done | exact rfl)
                 | (have hS := hS rfl
                    obtain ⟨q1, q2, q3⟩ := hS.at_;conv => lhs; simp [go_sem, *]
                    first | done | exact rfl)
             simp only [Act.put, lA, lZ, lS]
           refine zK rfl rfl fun K hK => ?_
           go_wp2_with (go_at_call 19; refine (RM.out _).mono ?_; rintro e w5 ⟨rfl, b5⟩)
           have O5 := Lh (((O0.out.drawnN _).drawn).keep b5);have T5 := Lh (((T0.out.mem (zJ (Below.refl W0.heap.size W0) _)).mem (Below.refl _ _).drew).mem b5);refine hK _ _ O5.out ?_;clear hK K b5;refine zK rfl rfl fun K hK => ?_
           go_wp2_with (go_at_call 18; refine (C1.out _ T5.out).mono ?_; rintro e w6 ⟨rfl, t6, k6⟩; have T6 := Lh t6; have O6 := Lh (k6 _ _ XC.out O5.out); clear t6 k6)
           refine hK _ _ O6.out ?_;clear hK K;refine zK rfl rfl fun K hK => ?_
           go_wp2_with (go_at_call 19; refine (RM.out _).mono ?_; rintro e w7 ⟨rfl, b7⟩)
           have O7 := Lh (O6.out.keep b7);have T7 := Lh (T6.out.mem b7);refine hK _ _ O7.out ?_;clear hK K b7;refine zK rfl rfl fun K hK => ?_
           go_wp2_with (go_at_call 31; refine (C2.out _ _ _ T7.out).mono ?_; rintro e w8 ⟨rfl, t8, k8⟩; have T8 := Lh t8; have O8 := Lh (k8 _ _ XC.out O7.out); clear t8 k8)
           refine hK _ _ O8.out ?_;clear hK K;iterate 2
             refine zC (v := ?_) rfl rfl (fun W hS => ?_) ?_;rotate_left
             · conv => lhs; simp [go_sem]
               first | done | exact rfl
             simp only [Act.put, lA, lZ, lS]
           refine zN ?_;go_wp2;go_meet;exact ⟨p, rfl, rfl, Mid.of T8.out S1.out (by omega) O8.out⟩
     · as_aux_lemma =>
       have t0_ : (dd == 0) = false := by rw [e9]; rfl
       have t1_ : (dd == 1) = false := by rw [e9]; rfl
       have t2_ : (dd == 2) = true := by rw [e9]; rfl
       clear e9;obtain ⟨e1, S1⟩ := S0.out.rel OK.out x3;have C1 := T0.out.free x3 (by omega);have C2 := fun (W : World) (c : Nat) (Q : PS) (h : Two w1 W C d p r c S Q R) => h.rrel S0.out.sim ROK.out x3
       rw [e1] at C1;obtain ⟨E, hE⟩ : ∃ E, E = R.relE x3 := ⟨_, rfl⟩
       obtain ⟨P1, hP1⟩ : ∃ P1, P1 = P.freI x3 := ⟨_, rfl⟩
       obtain ⟨R1, hR1⟩ : ∃ R1, R1 = R.rel x3 := ⟨_, rfl⟩
       rw [← hE, ← hP1] at C1;rw [← hE, ← hR1] at C2;rw [← hP1, ← hR1] at S1;replace C1 := Lh C1;replace C2 := Lh C2;replace S1 := Lh S1;clear e1 hE hP1 hR1;go_upto_region 29 with (go_at_call 20; refine C1.out.mono ?_; rintro e w3 ⟨rfl, t3, k3⟩; have T3 := Lh t3; have O3 := Lh (k3 _ _ XC.out O0.out); clear t3 k3)
       obtain ⟨q1, q2, q3⟩ := O3.out.at_;go_upto_region 30 with (go_at_call 32; refine (C2.out _ _ _ T3.out).mono ?_; rintro e w4 ⟨rfl, t4, k4⟩; have T4 := Lh t4; have O4 := Lh (k4 _ _ XC.out O3.out); clear t4 k4)
       by_cases hE : E = 10
       · subst hE;have CA := Lh (T4.out.abort);go_upto_region 33 with (go_at_call 23; refine CA.out.mono ?_; rintro e w8 ⟨rfl, t8, k8⟩; have T8 := Lh t8; have O8 := Lh (k8 _ _ XC.out O4.out); clear t8 k8)
         have CB := Lh (T8.out.rabort (S1.out.sim.ok T4.out.ok));go_wp2_with (go_at_call 30; refine CB.out.mono ?_; rintro e w9 ⟨rfl, t9, k9⟩; have T9 := Lh t9; have O9 := Lh (k9 _ _ XC.out O8.out); clear t9 k9)
         go_meet;exact ⟨p, rfl, rfl, Mid.of T9.out S1.out.abort (by omega) O9.out⟩
       · have hE' : (E == 10) = false := by rw [beq_eq_false_iff_ne]; exact hE
         go_wp2;go_meet;exact ⟨p, rfl, rfl, Mid.of T4.out S1.out (by omega) O4.out⟩
     · as_aux_lemma =>
       have t0_ : (dd == 0) = false := by rw [e9]; rfl
       have t1_ : (dd == 1) = false := by rw [e9]; rfl
       have t2_ : (dd == 2) = false := by rw [e9]; rfl
       have t3_ : (dd == 3) = true := by rw [e9]; rfl
       clear e9;obtain ⟨U, hU⟩ : ∃ U : Nat, IntKind.u64.wrap x4 = (U : Int) := ⟨(IntKind.u64.wrap x4).toNat, by have : 0 ≤ IntKind.u64.wrap x4 := by { simp [IntKind.wrap, IntKind.signed, IntKind.bits]; omega }; omega⟩
       have hU2 : U < 18446744073709551616 := by have h : IntKind.u64.wrap x4 < 18446744073709551616 := by { simp [IntKind.wrap, IntKind.signed, IntKind.bits]; omega }; omega
       obtain ⟨e1, S1⟩ := S0.out.rt OK.out x3 U hU2;have C1 := fun (W : World) (h : Two w1 W C d p r (2 + 300 * k) S P R) => h.root S0.out.up x3 U hU2 (by omega)
       have C2 := fun (W : World) (c : Nat) (Q : PS) (h : Two w1 W C d p r c S Q R) => h.rroot ROK.out x3 U hU2
       rw [e1] at C1;obtain ⟨E, hE⟩ : ∃ E, E = R.rtE x3 := ⟨_, rfl⟩
       obtain ⟨P1, hP1⟩ : ∃ P1, P1 = P.rt x3 U := ⟨_, rfl⟩
       obtain ⟨R1, hR1⟩ : ∃ R1, R1 = R.rt x3 U := ⟨_, rfl⟩
       rw [← hE, ← hP1] at C1;rw [← hE, ← hR1] at C2;rw [← hP1, ← hR1] at S1;replace C1 := Lh C1;replace C2 := Lh C2;replace S1 := Lh S1;clear e1 hE hP1 hR1 hU2;go_upto_region 35 with fail;refine zA (fun W => Own W wr.heap.size 44 #[.int .u8 x0, .int .u8 (kk : Int), .int .u8 x2, .int .i64 x3, .int .i64 x4, .int .u16 x5, .slice ka kl kc, .int .i64 x7, .int .i64 x8]) (0 :: 1 :: 2 :: 3 :: 4 :: 5 :: 7 :: 8 :: 9 :: 10 :: 11 :: 12 :: 14 :: 15 :: []) (2 :: 4 :: 9 :: 11 :: []) (0 :: 1 :: 2 :: 3 :: 4 :: 5 :: 7 :: 8 :: 9 :: 10 :: 11 :: 12 :: 6 :: 13 :: 14 :: 15 :: []) (by kernel_rfl) (by kernel_rfl) rfl (by kernel_rfl) rfl (O0.out.drawn) (by simp only [zQ, List.filterMap_cons, List.filterMap_nil, List.getElem?_cons_zero, List.getElem?_cons_succ, Option.map_some]; exact rfl) ?_;iterate 12
         refine zC (v := ?_) rfl rfl (fun W hS => ?_) ?_;rotate_left
         · first
             | (conv => lhs; simp [go_sem, hU]
                first | done | exact rfl)
             | (have hS := hS rfl
                obtain ⟨q1, q2, q3⟩ := hS.at_;conv => lhs; simp [go_sem, *, hU]
                first | done | exact rfl)
         simp only [Act.put, lA, lZ, lS]
       refine zK rfl rfl fun K hK => ?_
       have T5 := Lh (T0.out.mem ((Below.refl _ _).drew));have O5 := Lh (O0.out.drawn);go_wp2_with (go_at_call 21; refine (C1.out _ T5.out).mono ?_; rintro e w6 ⟨rfl, t6, k6⟩; have T6 := Lh t6; have O6 := Lh (k6 _ _ XC.out O5.out); clear t6 k6)
       refine hK _ _ O6.out ?_;clear hK K;refine zK rfl rfl fun K hK => ?_
       go_wp2_with (go_at_call 33; refine (C2.out _ _ _ T6.out).mono ?_; rintro e w8 ⟨rfl, t8, k8⟩; have T8 := Lh t8; have O8 := Lh (k8 _ _ XC.out O6.out); clear t8 k8)
       refine hK _ _ O8.out ?_;clear hK K;iterate 2
         refine zC (v := ?_) rfl rfl (fun W hS => ?_) ?_;rotate_left
         · conv => lhs; simp [go_sem]
           first | done | exact rfl
         simp only [Act.put, lA, lZ, lS]
       refine zN ?_;go_wp2;go_meet;exact ⟨p, rfl, rfl, Mid.of T8.out S1.out (by omega) O8.out⟩
     · as_aux_lemma =>
       have t0_ : (dd == 0) = false := by rw [e9]; rfl
       have t1_ : (dd == 1) = false := by rw [e9]; rfl
       have t2_ : (dd == 2) = false := by rw [e9]; rfl
       have t3_ : (dd == 3) = false := by rw [e9]; rfl
       have t4_ : (dd == 4) = true := by rw [e9]; rfl
       clear e9;have C1 := T0.out.commit' S0.out (by omega) (by omega);have hcm := S0.out.com OK.out (by omega);have hcount := S0.out.count OK.out;have hTl := S0.out.Tlen OK.out;rw [hcount] at hTl;obtain ⟨P1, hP1⟩ : ∃ P1, P1 = P.com := ⟨_, rfl⟩
       rw [← hP1] at C1 hcm;have C2 := fun (W : World) (c : Nat) (Q : PS) (h : Two w1 W C d p r c S Q R) => h.rcount
       have C3 := fun (W : World) (c : Nat) (Q : PS) (h : Two w1 W C d p r c S Q R) => h.rkeep ROK.out
       obtain ⟨n, hn⟩ : ∃ n, n = R.count := ⟨_, rfl⟩
       rw [← hn] at hTl hcm C2;clear hn hP1 hcount;replace C2 := Lh C2;replace C3 := Lh C3;rcases hcm with ⟨m1, m2, m3⟩ | ⟨m1, m2, m3⟩;all_goals
         rw [m2] at C1;replace C1 := Lh C1;replace m3 := Lh m3;clear m2;go_upto_region 38 with (go_at_call 22; refine C1.out.mono ?_; rintro e w3 ⟨rfl, t3, k3⟩; have T3 := Lh t3; have O3 := Lh (k3 _ _ XC.out O0.out); clear t3 k3)
         go_upto_region 39 with (go_at_call 34; refine (C2.out _ _ _ T3.out).mono ?_; rintro e w4 ⟨rfl, b4⟩; have T4 := Lh (T3.out.mem b4); have O4 := Lh (O3.out.keep b4); clear b4)
       · have m4 : 60 < 1 + 9 * n := by omega
         have m4' : (60 : Int) < 1 + 9 * (n : Int) := by omega
         go_wp2;go_meet;exact ⟨p, rfl, rfl, Mid.of' T4.out m3.out (by omega) O4.out⟩
       · have m4 : ¬ 60 < 1 + 9 * n := by omega
         have m4' : ¬ (60 : Int) < 1 + 9 * (n : Int) := by omega
         go_wp2_with (go_at_call 35; refine (C3.out _ _ _ T4.out).mono ?_; rintro e w5 ⟨rfl, t5, k5⟩; have T5 := Lh t5; have O5 := Lh (k5 _ _ XC.out O4.out); clear t5 k5)
         go_meet;exact ⟨p, rfl, rfl, Mid.of' T5.out m3.out (by omega) O5.out⟩
     · as_aux_lemma =>
       have t0_ : (dd == 0) = false := by rw [e9]; rfl
       have t1_ : (dd == 1) = false := by rw [e9]; rfl
       have t2_ : (dd == 2) = false := by rw [e9]; rfl
       have t3_ : (dd == 3) = false := by rw [e9]; rfl
       have t4_ : (dd == 4) = false := by rw [e9]; rfl
       have t5_ : (dd == 5) = true := by rw [e9]; rfl
       clear e9;have CA := Lh (T0.out.abort);go_upto_region 44 with (go_at_call 23; refine CA.out.mono ?_; rintro e w8 ⟨rfl, t8, k8⟩; have T8 := Lh t8; have O8 := Lh (k8 _ _ XC.out O0.out); clear t8 k8)
       have CB := Lh (T8.out.rabort ROK.out);go_wp2_with (go_at_call 30; refine CB.out.mono ?_; rintro e w9 ⟨rfl, t9, k9⟩; have T9 := Lh t9; have O9 := Lh (k9 _ _ XC.out O8.out); clear t9 k9)
       go_meet;exact ⟨p, rfl, rfl, Mid.of T9.out S0.out.abort (by omega) O9.out⟩
     · as_aux_lemma =>
       have t0_ : (dd == 0) = false := by rw [e9]; rfl
       have t1_ : (dd == 1) = false := by rw [e9]; rfl
       have t2_ : (dd == 2) = false := by rw [e9]; rfl
       have t3_ : (dd == 3) = false := by rw [e9]; rfl
       have t4_ : (dd == 4) = false := by rw [e9]; rfl
       have t5_ : (dd == 5) = false := by rw [e9]; rfl
       have t6_ : (dd == 6) = true := by rw [e9]; rfl
       clear e9;have C1 := T0.out.check' S0.out (by omega);have hcm := S0.out.ck OK.out (by omega);obtain ⟨P1, hP1⟩ : ∃ P1, P1 = P.ck := ⟨_, rfl⟩
       rw [← hP1] at C1 hcm;have C2 := fun (W : World) (c : Nat) (Q : PS) (h : Two w1 W C d p r c S Q R) => h.rcount
       obtain ⟨n, hn⟩ : ∃ n, n = R.count := ⟨_, rfl⟩
       rw [← hn] at hcm C2;clear hn hP1;replace C2 := Lh C2;rcases hcm with ⟨m1, m2, m3⟩ | ⟨m1, m2, m3⟩
       · skip;rw [m2] at C1;replace C1 := Lh C1;replace m3 := Lh m3;clear m2;go_upto_region 47 with (go_at_call 24; refine C1.out.mono ?_; rintro e w3 ⟨rfl, t3, k3⟩; have T3 := Lh t3; have O3 := Lh (k3 _ _ XC.out O0.out); clear t3 k3)
         have m4 : (0 : Int) < (n : Int) := by omega
         go_wp2_with (go_at_call 34; refine (C2.out _ _ _ T3.out).mono ?_; rintro e w4 ⟨rfl, b4⟩; have T4 := Lh (T3.out.mem b4); have O4 := Lh (O3.out.keep b4); clear b4)
         go_meet;exact ⟨p, rfl, rfl, Mid.of' T4.out m3.out (by omega) O4.out⟩
       · subst m1;rw [m2] at C1;replace C1 := Lh C1;replace m3 := Lh m3;clear m2;go_upto_region 47 with (go_at_call 24; refine C1.out.mono ?_; rintro e w3 ⟨rfl, t3, k3⟩; have T3 := Lh t3; have O3 := Lh (k3 _ _ XC.out O0.out); clear t3 k3)
         go_wp2_with fail;refine (C2.out _ _ _ T3.out).mono ?_;rintro e w4 ⟨rfl, b4⟩;have T4 := Lh (T3.out.mem b4);have O4 := Lh (O3.out.keep b4);clear b4;go_wp2_with fail;refine (C2.out _ _ _ T4.out).mono ?_;rintro e w5 ⟨rfl, b5⟩;have T5 := Lh (T4.out.mem b5);have O5 := Lh (O4.out.keep b5);clear b5;go_wp2;go_meet;exact ⟨p, rfl, rfl, Mid.of' T5.out m3.out (by omega) O5.out⟩
     · as_aux_lemma =>
       have t0_ : (dd == 0) = false := by rw [e9]; rfl
       have t1_ : (dd == 1) = false := by rw [e9]; rfl
       have t2_ : (dd == 2) = false := by rw [e9]; rfl
       have t3_ : (dd == 3) = false := by rw [e9]; rfl
       have t4_ : (dd == 4) = false := by rw [e9]; rfl
       have t5_ : (dd == 5) = false := by rw [e9]; rfl
       have t6_ : (dd == 6) = false := by rw [e9]; rfl
       have t7_ : (dd == 7) = true := by rw [e9]; rfl
       clear e9;have CO := Lh (T0.out.open_ S0.out);go_upto_region 54 with (go_at_call 15; refine CO.out.mono ?_; rintro e w8 ⟨p8, rfl, t8, k8⟩; have T8 := Lh t8; have O8 := Lh (k8 _ _ XC.out O0.out); clear t8 k8)
       have CB := Lh (T8.out.rabort ROK.out);go_wp2_with (go_at_call 30; refine CB.out.mono ?_; rintro e w9 ⟨rfl, t9, k9⟩; have T9 := Lh t9; have O9 := Lh (k9 _ _ XC.out O8.out); clear t9 k9)
       go_meet;exact ⟨p8, rfl, rfl, Mid.of T9.out S0.out.abort (by omega) O9.out⟩
     · as_aux_lemma =>
       have t0_ : (dd == 0) = false := by rw [e9]; rfl
       have t1_ : (dd == 1) = false := by rw [e9]; rfl
       have t2_ : (dd == 2) = false := by rw [e9]; rfl
       have t3_ : (dd == 3) = false := by rw [e9]; rfl
       have t4_ : (dd == 4) = false := by rw [e9]; rfl
       have t5_ : (dd == 5) = false := by rw [e9]; rfl
       have t6_ : (dd == 6) = false := by rw [e9]; rfl
       have t7_ : (dd == 7) = false := by rw [e9]; rfl
       have t8_ : (dd == 8) = true := by rw [e9]; rfl
       clear e9;have CO := Lh (T0.out.open_ S0.out);go_upto_region 54 with (go_at_call 15; refine CO.out.mono ?_; rintro e w8 ⟨p8, rfl, t8, k8⟩; have T8 := Lh t8; have O8 := Lh (k8 _ _ XC.out O0.out); clear t8 k8)
       have CB := Lh (T8.out.rabort ROK.out);go_wp2_with (go_at_call 30; refine CB.out.mono ?_; rintro e w9 ⟨rfl, t9, k9⟩; have T9 := Lh t9; have O9 := Lh (k9 _ _ XC.out O8.out); clear t9 k9)
       go_meet;exact ⟨p8, rfl, rfl, Mid.of T9.out S0.out.abort (by omega) O9.out⟩
   case rest =>
     as_aux_lemma =>
       clear hd9 NC RO RW T0 S0 OK ROK O0 q1 q2 q3 P R sk sr sf wa wq wr_ wf_ vd;obtain ⟨p, rfl, rfl, P, R, hT, hS, o4⟩ := hcut;have T4 := Lh hT;have S4 := Lh hS;have O4 := Lh o4;clear hT hS o4;have TO := T4.out.told S4.out (by omega);skip;obtain ⟨rt, hrt⟩ : ∃ rt, rt = P.root := ⟨_, rfl⟩
       rw [← hrt] at TO;have HRT := Lh hrt;unfold stC at TO;replace TO := Lh TO;clear hrt;go_upto_region 56 with (go_at_call 16; refine TO.out.mono ?_; rintro e w5 ⟨⟨na, nn, nc, ma, mn, mc, rfl, hs5⟩, t5, k5⟩; have T5 := Lh t5; have S5 := Lh hs5; have O5 := Lh (k5 _ _ XC.out O4.out); clear t5 hs5 k5)
       go_name_world W6 hW6;have n6 : Own W6 w5.heap.size 38 #[.slice na nn nc, .slice ma mn mc, .slice none 0 0, .int .u64 (rt 0 : Int), .int .u64 (rt 1 : Int), .int .u64 (rt 2 : Int), .int .u64 (rt 3 : Int), .int .u64 (rt 4 : Int), .int .u64 (rt 5 : Int), .int .u64 (rt 6 : Int), .int .u64 (rt 7 : Int)] := by
         rw [← hW6];exact Own.made_at rfl
       have b56 : Below w5.heap.size w5 W6 := by
         rw [← hW6];exact (Below.refl _ _).alloc (Nat.le_refl _) _
       have T6 := Lh (T5.out.mem b56);have U6 := Lh (S5.out.below b56);have O6 := Lh (O5.out.keep b56);have N6 := Lh n6;clear hW6 b56 n6 T5 S5 O5 T4 O4 TO;obtain ⟨sk, sr, sf, wa, wq, wr_, wf_, vd, hRO, hRW⟩ := Zr T6.out.ref;have RO := Lh hRO;have U7 := U6.out.below (Below.refl W6.heap.size W6).drew;rw [HRT.out] at U7;have SM := zLa S4.out U7 (hRW.below (Below.refl W6.heap.size W6).drew);clear U7;rw [← HRT.out] at SM;unfold stC at SM;replace SM := Lh SM;clear hRO hRW;have KEEP : Hid (∀ W W' B, Chg (Po.PT W B) W W' → (fun W => Own W w5.heap.size 38 #[.slice na nn nc, .slice ma mn mc, .slice none 0 0, .int .u64 (rt 0 : Int), .int .u64 (rt 1 : Int), .int .u64 (rt 2 : Int), .int .u64 (rt 3 : Int), .int .u64 (rt 4 : Int), .int .u64 (rt 5 : Int), .int .u64 (rt 6 : Int), .int .u64 (rt 7 : Int)] ∧ Own W r 61 #[.int .i64 (R.most : Int), .int .i64 (R.room : Int), sk, sr, sf, .int .u64 (R.sure.roots 0 : Int), .int .u64 (R.sure.roots 1 : Int), .int .u64 (R.sure.roots 2 : Int), .int .u64 (R.sure.roots 3 : Int), .int .u64 (R.sure.roots 4 : Int), .int .u64 (R.sure.roots 5 : Int), .int .u64 (R.sure.roots 6 : Int), .int .u64 (R.sure.roots 7 : Int), .slice wa R.way.kinds.length wq, wr_, wf_, .int .u64 (R.way.roots 0 : Int), .int .u64 (R.way.roots 1 : Int), .int .u64 (R.way.roots 2 : Int), .int .u64 (R.way.roots 3 : Int), .int .u64 (R.way.roots 4 : Int), .int .u64 (R.way.roots 5 : Int), .int .u64 (R.way.roots 6 : Int), .int .u64 (R.way.roots 7 : Int), vd]) W → (fun W => Own W w5.heap.size 38 #[.slice na nn nc, .slice ma mn mc, .slice none 0 0, .int .u64 (rt 0 : Int), .int .u64 (rt 1 : Int), .int .u64 (rt 2 : Int), .int .u64 (rt 3 : Int), .int .u64 (rt 4 : Int), .int .u64 (rt 5 : Int), .int .u64 (rt 6 : Int), .int .u64 (rt 7 : Int)] ∧ Own W r 61 #[.int .i64 (R.most : Int), .int .i64 (R.room : Int), sk, sr, sf, .int .u64 (R.sure.roots 0 : Int), .int .u64 (R.sure.roots 1 : Int), .int .u64 (R.sure.roots 2 : Int), .int .u64 (R.sure.roots 3 : Int), .int .u64 (R.sure.roots 4 : Int), .int .u64 (R.sure.roots 5 : Int), .int .u64 (R.sure.roots 6 : Int), .int .u64 (R.sure.roots 7 : Int), .slice wa R.way.kinds.length wq, wr_, wf_, .int .u64 (R.way.roots 0 : Int), .int .u64 (R.way.roots 1 : Int), .int .u64 (R.way.roots 2 : Int), .int .u64 (R.way.roots 3 : Int), .int .u64 (R.way.roots 4 : Int), .int .u64 (R.way.roots 5 : Int), .int .u64 (R.way.roots 6 : Int), .int .u64 (R.way.roots 7 : Int), vd]) W') := Lh fun W W' B hc h => ⟨zKz hc h.1, zJj hc h.2⟩
       have KEPB : Hid (∀ W W', Below W.heap.size W W' → (fun W => Own W w5.heap.size 38 #[.slice na nn nc, .slice ma mn mc, .slice none 0 0, .int .u64 (rt 0 : Int), .int .u64 (rt 1 : Int), .int .u64 (rt 2 : Int), .int .u64 (rt 3 : Int), .int .u64 (rt 4 : Int), .int .u64 (rt 5 : Int), .int .u64 (rt 6 : Int), .int .u64 (rt 7 : Int)] ∧ Own W r 61 #[.int .i64 (R.most : Int), .int .i64 (R.room : Int), sk, sr, sf, .int .u64 (R.sure.roots 0 : Int), .int .u64 (R.sure.roots 1 : Int), .int .u64 (R.sure.roots 2 : Int), .int .u64 (R.sure.roots 3 : Int), .int .u64 (R.sure.roots 4 : Int), .int .u64 (R.sure.roots 5 : Int), .int .u64 (R.sure.roots 6 : Int), .int .u64 (R.sure.roots 7 : Int), .slice wa R.way.kinds.length wq, wr_, wf_, .int .u64 (R.way.roots 0 : Int), .int .u64 (R.way.roots 1 : Int), .int .u64 (R.way.roots 2 : Int), .int .u64 (R.way.roots 3 : Int), .int .u64 (R.way.roots 4 : Int), .int .u64 (R.way.roots 5 : Int), .int .u64 (R.way.roots 6 : Int), .int .u64 (R.way.roots 7 : Int), vd]) W → (fun W => Own W w5.heap.size 38 #[.slice na nn nc, .slice ma mn mc, .slice none 0 0, .int .u64 (rt 0 : Int), .int .u64 (rt 1 : Int), .int .u64 (rt 2 : Int), .int .u64 (rt 3 : Int), .int .u64 (rt 4 : Int), .int .u64 (rt 5 : Int), .int .u64 (rt 6 : Int), .int .u64 (rt 7 : Int)] ∧ Own W r 61 #[.int .i64 (R.most : Int), .int .i64 (R.room : Int), sk, sr, sf, .int .u64 (R.sure.roots 0 : Int), .int .u64 (R.sure.roots 1 : Int), .int .u64 (R.sure.roots 2 : Int), .int .u64 (R.sure.roots 3 : Int), .int .u64 (R.sure.roots 4 : Int), .int .u64 (R.sure.roots 5 : Int), .int .u64 (R.sure.roots 6 : Int), .int .u64 (R.sure.roots 7 : Int), .slice wa R.way.kinds.length wq, wr_, wf_, .int .u64 (R.way.roots 0 : Int), .int .u64 (R.way.roots 1 : Int), .int .u64 (R.way.roots 2 : Int), .int .u64 (R.way.roots 3 : Int), .int .u64 (R.way.roots 4 : Int), .int .u64 (R.way.roots 5 : Int), .int .u64 (R.way.roots 6 : Int), .int .u64 (R.way.roots 7 : Int), vd]) W') := Lh fun W W' hb h => ⟨h.1.keep hb, h.2.keep hb⟩
       have s6 : Hid ((fun W => Own W w5.heap.size 38 #[.slice na nn nc, .slice ma mn mc, .slice none 0 0, .int .u64 (rt 0 : Int), .int .u64 (rt 1 : Int), .int .u64 (rt 2 : Int), .int .u64 (rt 3 : Int), .int .u64 (rt 4 : Int), .int .u64 (rt 5 : Int), .int .u64 (rt 6 : Int), .int .u64 (rt 7 : Int)] ∧ Own W r 61 #[.int .i64 (R.most : Int), .int .i64 (R.room : Int), sk, sr, sf, .int .u64 (R.sure.roots 0 : Int), .int .u64 (R.sure.roots 1 : Int), .int .u64 (R.sure.roots 2 : Int), .int .u64 (R.sure.roots 3 : Int), .int .u64 (R.sure.roots 4 : Int), .int .u64 (R.sure.roots 5 : Int), .int .u64 (R.sure.roots 6 : Int), .int .u64 (R.sure.roots 7 : Int), .slice wa R.way.kinds.length wq, wr_, wf_, .int .u64 (R.way.roots 0 : Int), .int .u64 (R.way.roots 1 : Int), .int .u64 (R.way.roots 2 : Int), .int .u64 (R.way.roots 3 : Int), .int .u64 (R.way.roots 4 : Int), .int .u64 (R.way.roots 5 : Int), .int .u64 (R.way.roots 6 : Int), .int .u64 (R.way.roots 7 : Int), vd]) W6) := Lh ⟨N6.out, RO.out⟩;refine zA (fun W => Own W w5.heap.size 38 #[.slice na nn nc, .slice ma mn mc, .slice none 0 0, .int .u64 (rt 0 : Int), .int .u64 (rt 1 : Int), .int .u64 (rt 2 : Int), .int .u64 (rt 3 : Int), .int .u64 (rt 4 : Int), .int .u64 (rt 5 : Int), .int .u64 (rt 6 : Int), .int .u64 (rt 7 : Int)] ∧ Own W r 61 #[.int .i64 (R.most : Int), .int .i64 (R.room : Int), sk, sr, sf, .int .u64 (R.sure.roots 0 : Int), .int .u64 (R.sure.roots 1 : Int), .int .u64 (R.sure.roots 2 : Int), .int .u64 (R.sure.roots 3 : Int), .int .u64 (R.sure.roots 4 : Int), .int .u64 (R.sure.roots 5 : Int), .int .u64 (R.sure.roots 6 : Int), .int .u64 (R.sure.roots 7 : Int), .slice wa R.way.kinds.length wq, wr_, wf_, .int .u64 (R.way.roots 0 : Int), .int .u64 (R.way.roots 1 : Int), .int .u64 (R.way.roots 2 : Int), .int .u64 (R.way.roots 3 : Int), .int .u64 (R.way.roots 4 : Int), .int .u64 (R.way.roots 5 : Int), .int .u64 (R.way.roots 6 : Int), .int .u64 (R.way.roots 7 : Int), vd]) (0 :: 1 :: 2 :: 3 :: 4 :: 5 :: 6 :: 7 :: 8 :: 9 :: 10 :: 11 :: 13 :: 14 :: 15 :: 16 :: 18 :: 20 :: 21 :: 22 :: 23 :: 25 :: 26 :: 27 :: 28 :: 29 :: 30 :: 31 :: 32 :: 33 :: 34 :: 36 :: 37 :: 38 :: 39 :: 40 :: 41 :: []) (7 :: 11 :: 29 :: 39 :: []) (0 :: 1 :: 2 :: 3 :: 4 :: 5 :: 6 :: 7 :: 8 :: 9 :: 10 :: 11 :: 12 :: 13 :: 14 :: 15 :: 16 :: 18 :: 17 :: 19 :: 20 :: 21 :: 22 :: 23 :: 25 :: 26 :: 27 :: 28 :: 29 :: 30 :: 24 :: 31 :: 32 :: 33 :: 34 :: 36 :: 37 :: 38 :: 39 :: 35 :: 40 :: 41 :: []) (by kernel_rfl) (by kernel_rfl) rfl (by kernel_rfl) rfl (⟨s6.out.1.drawn, s6.out.2.drawn⟩) (by simp only [zQ, List.filterMap_cons, List.filterMap_nil, List.getElem?_cons_zero, List.getElem?_cons_succ, Option.map_some]; exact rfl) ?_
       have T7 := Lh (T6.out.mem (Below.refl _ _).drew);have s7 := Lh (KEPB.out _ _ (Below.refl _ _).drew s6.out);iterate 12
         refine zC (v := ?_) rfl rfl (fun W hS => ?_) ?_;rotate_left
         · first
             | (conv => lhs; simp [go_sem]
                first | done | exact rfl)
             | (have hS := hS rfl
                obtain ⟨⟨q1, q2, q3⟩, ⟨g1, g2, g3⟩⟩ := (And.intro hS.1.at_ hS.2.at_)
                conv => lhs; simp [go_sem, *]
                first | done | exact rfl)
         simp only [Act.put, lA, lZ, lS]
       refine zK rfl rfl fun K hK => ?_
       go_wp2_with (go_at_call 27; go_loud (refine SM.out.mono ?_); rintro e w8 ⟨rfl, b8⟩; have T8 := Lh (T7.out.mem b8); have s8 := Lh (KEPB.out _ _ b8 s7.out); have O8 := Lh ((O6.out.keep (Below.refl _ _).drew).keep b8); clear b8)
       refine hK _ _ s8.out ?_;clear hK K;iterate 5
         refine zC (v := ?_) rfl rfl (fun W hS => ?_) ?_;rotate_left
         · conv => lhs; simp [go_sem]
           first | done | exact rfl
         simp only [Act.put, lA, lZ, lS]
       refine zK rfl rfl fun K hK => ?_
       have CD := Lh (T8.out.dirty S4.out);go_wp2_with (go_at_call 36; refine CD.out.mono ?_; rintro e w9 ⟨rfl, b9⟩; have T9 := Lh (T8.out.mem b9); have s9 := Lh (KEPB.out _ _ b9 s8.out); have O9 := Lh (O8.out.keep b9); clear b9)
       refine hK _ _ s9.out ?_;clear hK K;refine zK rfl rfl fun K hK => ?_
       have CC := Lh (T9.out.rcount);go_wp2_with (go_at_call 34; refine CC.out.mono ?_; rintro e w10 ⟨rfl, b10⟩; have T10 := Lh (T9.out.mem b10); have s10 := Lh (KEPB.out _ _ b10 s9.out); have O10 := Lh (O9.out.keep b10); clear b10)
       refine hK _ _ s10.out ?_;clear hK K;iterate 10
         refine zC (v := ?_) rfl rfl (fun W hS => ?_) ?_;rotate_left
         · first
             | (conv => lhs; simp [go_sem]
                first | done | exact rfl)
             | (have hS := hS rfl
                obtain ⟨g1, g2, g3⟩ := hS.2.at_;conv => lhs; simp [go_sem, *]
                first | done | exact rfl)
         simp only [Act.put, lA, lZ, lS]
       refine zK rfl rfl fun K hK => ?_
       have CP := Lh (T10.out.pages S4.out (by omega));go_wp2_with (go_at_call 37; refine CP.out.mono ?_; rintro e w11 ⟨rfl, ⟨B11, c11⟩, t11⟩; have T11 := Lh t11; have s11 := Lh (KEEP.out _ _ _ c11 s10.out); have O11 := Lh (zA7 (C := C) c11 _ _ XC.out O10.out); clear c11 t11)
       refine hK _ _ s11.out ?_;clear hK K;iterate 8
         refine zC (v := ?_) rfl rfl (fun W hS => ?_) ?_;rotate_left
         · first
             | (conv => lhs; simp [go_sem]
                first | done | exact rfl)
             | (have hS := hS rfl
                obtain ⟨g1, g2, g3⟩ := hS.2.at_;conv => lhs; simp [go_sem, *]
                first | done | exact rfl)
         simp only [Act.put, lA, lZ, lS]
       refine zK rfl rfl fun K hK => ?_
       have CM := Lh (T11.out.most S4.out);go_wp2_with (go_at_call 38; refine CM.out.mono ?_; rintro e w12 ⟨rfl, b12⟩; have T12 := Lh (T11.out.mem b12); have s12 := Lh (KEPB.out _ _ b12 s11.out); have O12 := Lh (O11.out.keep b12); clear b12)
       refine hK _ _ s12.out ?_;clear hK K;iterate 2
         refine zC (v := ?_) rfl rfl (fun W hS => ?_) ?_;rotate_left
         · conv => lhs; simp [go_sem]
           first | done | exact rfl
         simp only [Act.put, lA, lZ, lS]
       refine zN ?_;obtain ⟨q1, q2, q3⟩ := O12.out.at_;have CR := T12.out.read S4.out x3 (by omega);obtain ⟨E, hE⟩ : ∃ E, E = R.rdE x3 := ⟨_, rfl⟩
       rw [← hE] at CR;have HE := Lh hE;replace CR := Lh CR;clear hE;go_upto_region 59 with (go_at_call 39; refine CR.out.mono ?_; rintro e w13 ⟨⟨x13, t13, rfl⟩, tt, kt⟩; have T13 := Lh tt; have O13 := Lh (kt _ _ XC.out O12.out); clear tt kt)
       clear q1 q2 q3 s6 s7 s8 s9 s10 s11 s12 T6 T7 T8 T9 T10 T11 T12 CD CC CP CM CR SM KEEP KEPB RO N6 U6 O6 O8 O9 O10 O11 O12;by_cases n0 : x3 < 0
       · as_aux_lemma =>
         have hE : E = 1 := by rw [HE.out]; unfold RS.rdE; rw [if_pos (.inl n0)]
         subst hE;have dn : decide (x3 < 0) = true := by simpa using n0
         obtain ⟨q1, q2, q3⟩ := O13.out.at_;go_wp2_with (go_quiet (fail))
         go_roundw
         case rel => exact ⟨k + 1, p, by omega, by go_num, rfl, Pre.next' (T13.out.mem (zJ (Below.refl _ _) _)) S4.out (by omega) rfl⟩
         case measure => simp [intOf]; omega
       · as_aux_lemma =>
         have dn : decide (x3 < 0) = false := by simpa using n0
         have T14 := Lh (T13.out.mem (Below.refl _ _).drew);have CP := T14.out.pages S4.out (by omega);obtain ⟨KL, hKL⟩ : ∃ KL, KL = R.way.kinds.length := ⟨_, rfl⟩
         rw [← hKL] at CP;replace CP := Lh CP;have hkl : (E = 1 ∧ (KL : Int) ≤ x3) ∨ (E = 0 ∧ ¬ (KL : Int) ≤ x3) := by
           rw [HE.out, hKL];unfold RS.rdE;by_cases c : (R.way.kinds.length : Int) ≤ x3
           · exact .inl ⟨if_pos (.inr c), c⟩
           · exact .inr ⟨if_neg (fun h => h.elim n0 c), c⟩
         clear hKL HE;rcases hkl with ⟨rfl, n1⟩ | ⟨rfl, n1⟩;all_goals
           skip;refine zA (fun W => Own W wr.heap.size 44 #[.int .u8 x0, .int .u8 (kk : Int), .int .u8 x2, .int .i64 x3, .int .i64 x4, .int .u16 x5, .slice ka kl kc, .int .i64 x7, .int .i64 x8]) (0 :: 1 :: 2 :: 3 :: 4 :: 5 :: 6 :: 7 :: 8 :: 10 :: 11 :: 12 :: []) (3 :: 7 :: []) (0 :: 1 :: 2 :: 3 :: 4 :: 5 :: 6 :: 7 :: 8 :: 9 :: 10 :: 11 :: 12 :: []) (by kernel_rfl) (by kernel_rfl) rfl (by kernel_rfl) rfl (O13.out.drawn) (by simp only [zQ, List.filterMap_cons, List.filterMap_nil, List.getElem?_cons_zero, List.getElem?_cons_succ, Option.map_some]; exact rfl) ?_;iterate 9
             refine zC (v := ?_) rfl rfl (fun W hS => ?_) ?_;rotate_left
             · first
                 | (conv => lhs; simp [go_sem, dn, n0]
                    first | done | exact rfl)
                 | (have hS := hS rfl
                    obtain ⟨q1, q2, q3⟩ := hS.at_;conv => lhs; simp [go_sem, *, dn, n0]
                    first | done | exact rfl)
             simp only [Act.put, lA, lZ, lS]
           refine zK rfl rfl fun K hK => ?_
           go_wp2_with (go_at_call 37; refine CP.out.mono ?_; rintro e w15 ⟨rfl, ⟨B15, c15⟩, t15⟩; have T15 := Lh t15; have O15 := Lh (zA7 (C := C) c15 _ _ XC.out O13.out.drawn); clear c15 t15)
           refine hK _ _ O15.out ?_;clear hK K;iterate 3
             refine zC (v := ?_) rfl rfl (fun W hS => ?_) ?_;rotate_left
             · conv => lhs; simp [go_sem, n1]
               first | done | exact rfl
             simp only [Act.put, lA, lZ, lS]
           refine zN ?_;go_wp2;go_roundw
           case rel => exact ⟨k + 1, p, by omega, by go_num, rfl, Pre.next' T15.out S4.out (by omega) rfl⟩
           case measure => simp [intOf]; omega
end Go.Proofs.YtndhmidgnpobjaaGreatDoor.pagerPlays
