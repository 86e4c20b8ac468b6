import Derived.Test.YthijgebmoadgkaaGreatDoorPgrB
import Derived.ProofKit
import Derived.OpenShut
import Derived.ChangeSame
import Derived.MakeChecks
import Derived.Deep.Slices
import Derived.Deep.Fields
import Derived.Deep.Grids
set_option linter.unusedVariables false
set_option linter.unusedSimpArgs false
namespace Go.Proofs.YthijgebmoadgkaaGreatDoor
open Go.ChangeShapes Go.WideShapes Go.ChangeAt Go.RowKit
structure uU where
 do_ : Int
 kind : Int
 byte : Int
 no : Int
 n : Int
 long : Int
 ka : Option Addr
 kl : Nat
 kc : Nat
 zs : List Bool
 torn : Int
 bytes : Int
instance : Inhabited uU := ⟨⟨0, 0, 0, 0, 0, 0, none, 0, 0, [], 0, 0⟩⟩
def uU.cells (x : uU) : Array Value := #[.int .u8 x.do_, .int .u8 x.kind, .int .u8 x.byte, .int .i64 x.no, .int .i64 x.n, .int .u16 x.long, .slice x.ka x.kl x.kc, .int .i64 x.torn, .int .i64 x.bytes]
structure uU.Ok (w : World) (x : uU) : Prop where
 do_ : (Lit.int .u8 x.do_).wf = true
 kind : (Lit.int .u8 x.kind).wf = true
 byte : (Lit.int .u8 x.byte).wf = true
 no : (Lit.int .i64 x.no).wf = true
 n : (Lit.int .i64 x.n).wf = true
 long : (Lit.int .u16 x.long).wf = true
 keep : jR w x.ka x.kl x.kc x.zs
 old : ∀ b o, x.ka = some ⟨b, o, none⟩ -> 0 < x.kl -> b < w.heap.size
 torn : (Lit.int .i64 x.torn).wf = true
 bytes : (Lit.int .i64 x.bytes).wf = true
theorem zOi {x : Int} (h : (Lit.int .u16 x).wf = true) : 0 <= x /\ x <= 65535 := by
 simp [Lit.wf, IntKind.min, IntKind.max, IntKind.signed, IntKind.bits] at h;omega
theorem zIz {x : Int} (h : (Lit.int .u8 x).wf = true) : 0 <= x /\ x <= 255 := by
 simp [Lit.wf, IntKind.min, IntKind.max, IntKind.signed, IntKind.bits] at h;omega
theorem Uo {w : World} {a : Addr} {v : Value} (h : w.cell? a = some v) : a.spot = none := by
 unfold World.cell? at h;cases hs : a.spot with
 | none => rfl
 | some x => rw [hs] at h; split at h <;> simp at h
theorem jA {a : Addr} (h : a.spot = none) (i : Nat) : a = ⟨a.block, a.off, none⟩ /\ a.add i = ⟨a.block, a.off + i, none⟩ := by
 obtain ⟨b, o, s⟩ := a;simp only at h;subst h;exact ⟨rfl, by unfold Addr.add; split <;> simp_all⟩
theorem Xg {a : Addr} (h : (a.add 0).spot = none) : a.spot = none := by
 obtain ⟨b, o, s⟩ := a;cases s with
 | none => rfl
 | some x => unfold Addr.add at h; simp at h
section
variable {H : Type} {enc : TypeId × Value -> H} {W : World} {base : Nat} {held : Bool}
theorem zG5 {fuel : Nat} {cs : List Value} {x : DataW H × List MemPlace} (h : DataW.trod enc Tryz.prog W base (fun _ => true) held fuel 42 cs = some x) :
   ∃ a l c zs, cs = [.slice a l c] /\ jR W a l c zs /\ ∀ b o, a = some ⟨b, o, none⟩ -> 0 < l -> b < W.heap.size := by
 rcases Deep.open_bools Tryz.underlying42 Tryz.underlying4 (by kernel_rfl) h with ⟨rfl, _⟩ | ⟨a, len, cap, B, rfl, hb, hl, hm, _, hc⟩
 · exact ⟨none, 0, 0, [], rfl, ⟨Nat.le_refl _, Nat.zero_le _, .inl rfl⟩, fun _ _ h => by cases h⟩
 · refine ⟨some a, len, cap, (List.range len).map B, rfl, ⟨hl, hm, ?_⟩, ?_⟩
   · by_cases h0 : len = 0
     · exact .inl h0
     · have hs := Xg (Uo (hc 0 (by omega)));refine .inr ⟨a.block, a.off, congrArg some (jA hs 0).1, fun i hi => ?_⟩;rw [<- (jA hs i).2, hc i (by omega)];simp [List.getD, hi]
   · intro b o e h0;have hs := Xg (Uo (hc 0 (by omega)));have := hc 0 (by omega);rw [(jA hs 0).2] at this;have e' : a = ⟨b, o, none⟩ := by simpa using e
     rw [e'] at this;exact Qq this
set_option maxRecDepth 10000 in
theorem zDk {fuel : Nat} {cs : List Value} {x : DataW H × List MemPlace} (h : DataW.trod enc Tryz.prog W base (fun _ => true) held fuel 44 cs = some x) :
   ∃ a : uU, cs = a.cells.toList /\ a.Ok W := by
 obtain ⟨xs, n, _, _, hl, hxl, hf⟩ := DataW.trod_struct Tryz.underlying44 h;have hc : Tryz.prog.cellsOf 44 = 9 := by kernel_rfl
 rw [hc] at hl;have c1 : Tryz.prog.cellsOf 5 = 1 := by kernel_rfl
 have c2 : Tryz.prog.cellsOf 3 = 1 := by kernel_rfl
 have c3 : Tryz.prog.cellsOf 41 = 1 := by kernel_rfl
 have c4 : Tryz.prog.cellsOf 42 = 1 := by kernel_rfl
 match cs, hl with
 | [v0, v1, v2, v3, v4, v5, v6, v7, v8], _ =>
   have hx9 : xs.length = 9 := hxl;match xs, hx9 with
   | [y0, y1, y2, y3, y4, y5, y6, y7, y8], _ =>
     have h0 : DataW.trod enc Tryz.prog W base (fun _ => true) held n 5 [v0] = some y0 := by
       have h := hf 0 _ rfl;change DataW.trod enc Tryz.prog W base (fun _ => true) held n 5 (List.take (Tryz.prog.cellsOf 5) [v0, v1, v2, v3, v4, v5, v6, v7, v8]) = some y0 at h;rw [c1] at h;exact h
     have h1 : DataW.trod enc Tryz.prog W base (fun _ => true) held n 5 [v1] = some y1 := by
       have h := hf 1 _ rfl;change DataW.trod enc Tryz.prog W base (fun _ => true) held n 5 (List.take (Tryz.prog.cellsOf 5) [v1, v2, v3, v4, v5, v6, v7, v8]) = some y1 at h;rw [c1] at h;exact h
     have h2 : DataW.trod enc Tryz.prog W base (fun _ => true) held n 5 [v2] = some y2 := by
       have h := hf 2 _ rfl;change DataW.trod enc Tryz.prog W base (fun _ => true) held n 5 (List.take (Tryz.prog.cellsOf 5) [v2, v3, v4, v5, v6, v7, v8]) = some y2 at h;rw [c1] at h;exact h
     have h3 : DataW.trod enc Tryz.prog W base (fun _ => true) held n 3 [v3] = some y3 := by
       have h := hf 3 _ rfl;change DataW.trod enc Tryz.prog W base (fun _ => true) held n 3 (List.take (Tryz.prog.cellsOf 3) [v3, v4, v5, v6, v7, v8]) = some y3 at h;rw [c2] at h;exact h
     have h4 : DataW.trod enc Tryz.prog W base (fun _ => true) held n 3 [v4] = some y4 := by
       have h := hf 4 _ rfl;change DataW.trod enc Tryz.prog W base (fun _ => true) held n 3 (List.take (Tryz.prog.cellsOf 3) [v4, v5, v6, v7, v8]) = some y4 at h;rw [c2] at h;exact h
     have h5 : DataW.trod enc Tryz.prog W base (fun _ => true) held n 41 [v5] = some y5 := by
       have h := hf 5 _ rfl;change DataW.trod enc Tryz.prog W base (fun _ => true) held n 41 (List.take (Tryz.prog.cellsOf 41) [v5, v6, v7, v8]) = some y5 at h;rw [c3] at h;exact h
     have h6 : DataW.trod enc Tryz.prog W base (fun _ => true) held n 42 [v6] = some y6 := by
       have h := hf 6 _ rfl;change DataW.trod enc Tryz.prog W base (fun _ => true) held n 42 (List.take (Tryz.prog.cellsOf 42) [v6, v7, v8]) = some y6 at h;rw [c4] at h;exact h
     have h7 : DataW.trod enc Tryz.prog W base (fun _ => true) held n 3 [v7] = some y7 := by
       have h := hf 7 _ rfl;change DataW.trod enc Tryz.prog W base (fun _ => true) held n 3 (List.take (Tryz.prog.cellsOf 3) [v7, v8]) = some y7 at h;rw [c2] at h;exact h
     have h8 : DataW.trod enc Tryz.prog W base (fun _ => true) held n 3 [v8] = some y8 := by
       have h := hf 8 _ rfl;change DataW.trod enc Tryz.prog W base (fun _ => true) held n 3 (List.take (Tryz.prog.cellsOf 3) [v8]) = some y8 at h;rw [c2] at h;exact h
     obtain ⟨x0, e0, _, w0⟩ := DataW.trod_int Tryz.underlying5 h0;obtain ⟨x1, e1, _, w1⟩ := DataW.trod_int Tryz.underlying5 h1;obtain ⟨x2, e2, _, w2⟩ := DataW.trod_int Tryz.underlying5 h2;obtain ⟨x3, e3, _, w3⟩ := DataW.trod_int Tryz.underlying3 h3;obtain ⟨x4, e4, _, w4⟩ := DataW.trod_int Tryz.underlying3 h4;obtain ⟨x5, e5, _, w5⟩ := DataW.trod_int Tryz.underlying41 h5;obtain ⟨ka, kl, kc, zs, e6, w6, w9⟩ := zG5 h6;obtain ⟨x7, e7, _, w7⟩ := DataW.trod_int Tryz.underlying3 h7;obtain ⟨x8, e8, _, w8⟩ := DataW.trod_int Tryz.underlying3 h8;simp at e0 e1 e2 e3 e4 e5 e6 e7 e8;subst e0 e1 e2 e3 e4 e5 e6 e7 e8;exact ⟨⟨x0, x1, x2, x3, x4, x5, ka, kl, kc, zs, x7, x8⟩, rfl, ⟨w0, w1, w2, w3, w4, w5, w6, w9, w7, w8⟩⟩
def Jf (w : World) (a : Option Addr) (len cap : Nat) (l : List uU) : Prop :=
 len <= cap /\ cap <= maxLen /\ l.length = len /\ (len = 0 \/ ∃ b o, a = some ⟨b, o, none⟩ /\ b < w.heap.size /\ ∀ i (h : i < l.length), (∀ j, j < 9 -> w.cell? ⟨b, o + i * 9 + j, none⟩ = (l[i]'h).cells[j]?) /\ (l[i]'h).Ok w)
set_option maxRecDepth 10000 in
theorem zId {fuel : Nat} {cs : List Value} {x : DataW H × List MemPlace} (h : DataW.trod enc Tryz.prog W base (fun _ => true) held fuel 22 cs = some x) :
   ∃ a l c zs, cs = [.slice a l c] /\ Jf W a l c zs := by
 have hc9 : Tryz.prog.cellsOf 44 = 9 := by kernel_rfl
 rcases Deep.open_slice Tryz.underlying22 h with ⟨rfl, _⟩ | ⟨a, len, cap, m, n, D, Pl, rfl, hb, hl, hm, hmm, _, hi⟩
 · exact ⟨none, 0, 0, [], rfl, ⟨Nat.le_refl _, Nat.zero_le _, rfl, .inl rfl⟩⟩
 · simp at hmm;subst hmm;rw [hc9] at hi;have each : ∀ i, i < len -> ∃ y : uU, (∀ j, j < 9 -> W.cell? ((a.add (i * 9)).add j) = y.cells[j]?) /\ y.Ok W := fun i hil => by
     obtain ⟨cs', h1, h2⟩ := hi i (by omega);obtain ⟨_, h3, h4⟩ := World.cells?_some h1;obtain ⟨y, e, ok⟩ := zDk h2;exact ⟨y, fun j hj => by rw [h4 j hj, e]; simp, ok⟩
   obtain ⟨f, hf⟩ := Deep.choose_lt (α := uU) (p := fun i y => (∀ j, j < 9 -> W.cell? ((a.add (i * 9)).add j) = y.cells[j]?) /\ y.Ok W) each;refine ⟨some a, len, m, (List.range len).map f, rfl, ⟨hl, hm, by simp, ?_⟩⟩;by_cases h0 : len = 0
   · exact .inl h0
   · have hc0 := (hf 0 (by omega)).1 0 (by omega);rw [Deep.add_add] at hc0;have hs := Xg (Uo (v := .int .u8 (f 0).do_) hc0);refine .inr ⟨a.block, a.off, congrArg some (jA hs 0).1, ?_, fun i hil => ?_⟩
     · rw [(jA hs _).2] at hc0;exact Qq (v := .int .u8 (f 0).do_) hc0
     · simp only [List.length_map, List.length_range] at hil;have := hf i hil;simp only [List.getElem_map, List.getElem_range];refine ⟨fun j hj => ?_, this.2⟩;rw [<- this.1 j hj, Deep.add_add, (jA hs _).2, Nat.add_assoc]
end
theorem jR.keep {w w' : World} {a : Option Addr} {len cap : Nat} {zs : List Bool} (h : jR w a len cap zs) (hb : Below w.heap.size w w') : jR w' a len cap zs := by
 obtain ⟨h1, h2, h3⟩ := h;refine ⟨h1, h2, ?_⟩;rcases h3 with h3 | ⟨b, o, rfl, h3⟩
 · exact .inl h3
 · exact .inr ⟨b, o, rfl, fun i hi => Go.Proofs.YthijgebmoadgkaaGreatDoor.keep hb (h3 i hi)⟩
theorem uU.Ok.stay {w w' : World} {x : uU} (h : x.Ok w) (hb : Below w.heap.size w w') : x.Ok w' :=
 ⟨h.do_, h.kind, h.byte, h.no, h.n, h.long, h.keep.keep hb, fun b o e hl => Nat.lt_of_lt_of_le (h.old b o e hl) hb.size, h.torn, h.bytes⟩
theorem Jf.keep {w w' : World} {a : Option Addr} {len cap : Nat} {l : List uU} (h : Jf w a len cap l) (hb : Below w.heap.size w w') : Jf w' a len cap l := by
 obtain ⟨h1, h2, h3, h4⟩ := h;refine ⟨h1, h2, h3, ?_⟩;rcases h4 with h4 | ⟨b, o, rfl, hbz, h4⟩
 · exact .inl h4
 · refine .inr ⟨b, o, rfl, Nat.lt_of_lt_of_le hbz hb.size, fun i hi => ⟨fun j hj => ?_, (h4 i hi).2.stay hb⟩⟩;rw [hb.cell (p := ⟨b, o + i * 9 + j, none⟩) hbz];exact (h4 i hi).1 j hj
def FewA (l : List uU) : Prop := l.length <= 60 /\ ∀ i (h : i < l.length), (l[i]'h).kl <= 1000
def zJ6 (w W : World) (l : List uU) (e : Ending) : Prop := w = W /\ ((e = .returned (.bool true) /\ FewA l) \/ e = .returned (.bool false))
theorem zKn {w : World} {l : List uU} : zJ6 w w l (.returned (.bool false)) := ⟨rfl, .inr rfl⟩
set_option maxRecDepth 100000 in
theorem zMi (w : World) (a : Option Addr) (len cap : Nat) (l : List uU) (h : Jf w a len cap l) :
   Calls Tryz.prog 15 #[.slice a len cap] w fun e w' => zJ6 w w' l e := by
 obtain ⟨h1, h2, h3, h4⟩ := h;unfold maxLen at h2;have hlen : len <= 9223372036854775807 := by omega
 replace h3 := Lh h3;replace h4 := Lh h4;go_enter Tryz.func15, Tryz.ntmps15;go_wp2;go_loop [3] (fun i => ∃ k : Nat, k <= len /\ k <= 60 /\ i = .int .i64 k /\ ∀ j (hj : j < l.length), j < k -> (l[j]'hj).kl <= 1000) (fun i => len - (intOf i).toNat)
 case atStart => exact ⟨0, by omega, by omega, rfl, fun _ _ h => by omega⟩
 case round =>
   obtain ⟨k, hk, hk3, rfl, hok⟩ := hrel;replace hok := Lh hok;by_cases hlt : k < len
   · rcases h4.out with h | ⟨b, o, rfl, hb, hc⟩
     · omega
     have hkl : k < l.length := by rw [h3.out]; exact hlt
     obtain ⟨hcell, hx⟩ := hc k hkl;have c3 := hcell 6 (by omega);have hx5 := hx.keep.1;have hx6 := hx.keep.2.1;unfold maxLen at hx6;obtain ⟨y, hy⟩ : ∃ y, y = l[k]'hkl := ⟨_, rfl⟩
     rw [<- hy] at c3 hx5 hx6;replace hy := Lh hy;obtain ⟨x0, x1, x2, x3, x4, x5, ka, kl, kc, zs, x7, x8⟩ := y;simp only [uU.cells, List.getElem?_toArray, List.getElem?_cons_succ, List.getElem?_cons_zero] at c3 hx5 hx6;clear hcell hx hc;by_cases g1 : 60 <= k
     · go_wp2;go_ret;exact zKn
     · by_cases g2 : 1000 < kl
       · go_wp2;go_ret;exact zKn
       · go_wp2;go_round
         case rel =>
           refine ⟨k + 1, by omega, by omega, by go_num, fun j hj hjk => ?_⟩;by_cases e : j = k
           · subst e;rw [<- hy.out];simp only; omega
           · exact hok.out j hj (by omega)
         case measure => simp [intOf]; omega
   · obtain rfl : k = len := by omega
     go_wp2;go_ret;exact ⟨rfl, .inl ⟨rfl, by rw [h3.out]; exact hk3, fun i hi => hok.out i hi (by have := h3.out; omega)⟩⟩
def rl (b n k : Nat) : List UInt8 := (List.range n).map fun i => if i < k then UInt8.ofNat ((b + i) % 256) else 0
theorem zBj (b n k : Nat) : (rl b n k).length = n := by simp [rl]
theorem zMw (b n k : Nat) (hk : k < n) : (rl b n k).set k (UInt8.ofNat ((b + k) % 256)) = rl b n (k + 1) := by
 refine List.ext_getElem (by simp [rl]) fun j h1 h2 => ?_
 simp only [rl, List.getElem_set, List.getElem_map, List.getElem_range];by_cases e : k = j
 · subst e; simp
 · rw [if_neg e];by_cases h : j < k
   · rw [if_pos h, if_pos (by omega)]
   · rw [if_neg h, if_neg (by omega)]
theorem zKj (b k : Nat) : ((UInt8.ofNat ((b + k) % 256)).toNat : Int) = (((b + k) % 256 : Nat) : Int) := by
 simp
def Rm (b n : Nat) : ByteArray := zAs (rl b n n)
def uU.room (x : uU) : ByteArray := Rm x.byte.toNat (x.long % 500).toNat
set_option maxRecDepth 10000 in
set_option maxHeartbeats 1000000 in
theorem zJq (x : uU) (w : World) (hb : (Lit.int .u8 x.byte).wf = true) (hl : (Lit.int .u16 x.long).wf = true) : Calls Tryz.prog 22 #[.agg x.cells] w fun e w' => e = .returned (.string x.room) /\ Below w.heap.size w w' := by
 have r0 := zIz hb;have r1 := zOi hl;obtain ⟨b, hbe⟩ : ∃ b : Nat, x.byte = (b : Int) := ⟨x.byte.toNat, by omega⟩
 obtain ⟨n, hne⟩ : ∃ n : Nat, x.long % 500 = (n : Int) := ⟨(x.long % 500).toNat, by omega⟩
 have hn5 : n < 500 := by omega
 have hR : Hid (x.room = Rm b n) := Lh (by unfold uU.room; rw [hbe, hne]; rfl);obtain ⟨T, hT⟩ : ∃ T, T = x.room := ⟨_, rfl⟩
 rw [<- hT] at hR ⊢;obtain ⟨x0, x1, x2, x3, x4, x5, ka, kl, kc, zs, x7, x8⟩ := x;simp only at hbe hne hb hl r0 r1;subst hbe;have u1 : IntKind.i64.wrap x5 = x5 := by rw [IntKind.wrap_i64]; omega
 clear hT hb hl;have HM : ∀ w, (Instr.makeSlice 87 (.int .i64 (n : Int)) (.int .i64 (n : Int))).run Tryz.prog w = _ := fun w => run_make_row' (P := Tryz.prog) 87 5 (.int .u8 0) 1 Tryz.underlying87 zGu rfl .i64 .i64 n (by omega) (by omega) w
 have O0 := Own.made w 44 (uU.cells ⟨x0, x1, (b : Int), x3, x4, x5, ka, kl, kc, zs, x7, x8⟩);have L0 : Below w.heap.size w (w.alloc (.cells (uU.cells ⟨x0, x1, (b : Int), x3, x4, x5, ka, kl, kc, zs, x7, x8⟩) 44)) := (Below.refl _ _).alloc (Nat.le_refl _) _;obtain ⟨C, hC⟩ : ∃ C, C = uU.cells ⟨x0, x1, (b : Int), x3, x4, x5, ka, kl, kc, zs, x7, x8⟩ := ⟨_, rfl⟩
 have hC2 : C[2]? = some (.int .u8 (b : Int)) := by rw [hC]; rfl
 have hC5 : C[5]? = some (.int .u16 x5) := by rw [hC]; rfl
 rw [<- hC] at O0 L0 ⊢;clear hC;go_enter Tryz.func22, Tryz.ntmps22;go_upto_region 1 with fail;go_name_world W1 hW1;rw [hW1] at O0 L0;have z1 : W1.heap.size = w.heap.size + 1 := by rw [<- hW1]; simp
 clear hW1;have B2 := zFn W1 5 n;have L2 : Below w.heap.size w (W1.alloc (.cells (madeCells #[.int .u8 0] n) 5)) := L0.alloc L0.size _;have O2 := O0.more (.cells (madeCells #[.int .u8 0] n) 5);have e0 : List.replicate n (0 : UInt8) = rl b n 0 := by
   unfold rl;simp only [Nat.not_lt_zero, if_false, List.map_const', List.length_range]
 rw [e0] at B2;have f5 := (O0.at_.1 5).trans hC5;have HM1 := HM W1;clear HM e0;replace z1 := Lh z1;go_upto_region 2 with fail;clear hne;go_name_world W2 hW2;rw [hW2] at B2 L2 O2;clear hW2 HM1 f5 O0 L0;replace B2 := Lh B2;replace L2 := Lh L2;replace O2 := Lh O2;go_upto_region 3 with fail;go_loopw [4] (fun i wr => ∃ k : Nat, k <= n /\ i = .int .i64 k /\ xB wr W1.heap.size (rl b n k) /\ Own wr w.heap.size 44 C /\ Below w.heap.size w wr) (fun i wr => n - (intOf i).toNat)
 case atStart => exact ⟨0, Nat.zero_le _, rfl, B2.out, O2.out, L2.out⟩
 case round =>
   obtain ⟨k, hk, rfl, hB, hO, hL⟩ := hrel;have c2 := (hO.at_.1 2).trans hC2;by_cases hlt : k < n
   · have c1 := hB.cell k (by rw [zBj]; exact hlt);have c3 := hB.free k (by rw [zBj]; exact hlt);have l1 : (k : Int) < (n : Int) := by omega
     replace hB := Lh hB;replace hO := Lh hO;replace hL := Lh hL;go_wp2;go_roundw
     case rel =>
       refine ⟨k + 1, by omega, by go_num, ?_, hO.out.apart (by have := z1.out; omega) _ _, hL.out.setCell (by show w.heap.size <= W1.heap.size; have := z1.out; omega) _⟩;have e : (((b : Int) + (k : Int) % 256) % 256) = ((UInt8.ofNat ((b + k) % 256)).toNat : Int) := by rw [zKj]; omega
       have e2 : (((b : Int) + (k : Int)) % 256) = ((UInt8.ofNat ((b + k) % 256)).toNat : Int) := by rw [zKj]; omega
       first | rw [e] | rw [e2]
       rw [<- zMw b n k hlt];exact hB.out.store k (by rw [zBj]; exact hlt) _
     case measure => simp [intOf]; omega
   · obtain rfl : k = n := by omega
     have HC := zJz Tryz.prog wr 87 9 5 W1.heap.size k (rl b k k) hB Tryz.underlying87 Tryz.underlying5 Tryz.underlying9;rw [zBj] at HC;change _ = Result.ok (Value.string (Rm b k)) _ at HC;rw [<- hR.out] at HC;clear hB;replace hL := Lh hL;go_wp2;go_ret;exact ⟨rfl, hL.out⟩
end Go.Proofs.YthijgebmoadgkaaGreatDoor
