import Derived.Test.YthijgebmoadgkaaGreatDoorPagD
import Derived.Test.YthijgebmoadgkaaGreatDoorShelf
import Derived.Lib.Builder
import Derived.KernelRfl
import Derived.Laws.Entries
import Derived.WalkLawsBesides
import Derived.Test.YthijgebmoadgkaaGreatDoorRdoA
import Derived.Test.YthijgebmoadgkaaGreatDoorPgrB
import Derived.BigGuard
set_option linter.unusedVariables false
set_option linter.unusedSimpArgs false
namespace Go.Proofs.YthijgebmoadgkaaGreatDoor
open Go.ChangeShapes Go.WideShapes Go.ChangeAt Go.RowKit
section
abbrev tB : TypeId := 225
abbrev t8 : TypeId := 5
theorem zJ8 : (Tryz.prog.info? tB).map (·.size) = some 2 := by kernel_rfl
theorem zJk : liesAt Tryz.prog Tryz.prog.depth tB (2 / Tryz.prog.cellsOf tB) 0 tB 1 = true := by kernel_rfl
theorem zHp : (Tryz.prog.info? t8).map (fun i => (i.zero, i.size, i.bytes)) = some (some (.int .u8 0), 1, 1) := by kernel_rfl
theorem zOq : tB ≠ t8 := by decide
set_option maxHeartbeats 1000000 in
set_option maxRecDepth 100000 in
theorem zOe (B b : Nat) (bs : List Value) (w : World) (h : Lib.IsBuilder tB t8 B b bs w) :
   Calls Tryz.prog 222 #[.pointer (some ⟨b, 0, none⟩)] w fun e w' => e = .returned (.tuple #[]) /\ Lib.BuilderAt tB t8 B b (.pointer (some ⟨b, 0, none⟩)) bs w' /\ Below B w w' := by
 obtain ⟨j, hj, hjs⟩ := Option.map_eq_some_iff.1 zJ8;rcases h with h | h
 · have h0 := h.cell0;have hsh := h.shape;have hfz := h.frozen0;have H := Lh h;clear h;go_enter Tryz.func222, Tryz.ntmps222;go_wp2;rw [Lib.run_to_unsafe w ⟨b, 0, none⟩ Tryz.underlying223 Tryz.underlying349 hj (by rw [hjs]; decide) hsh (Nat.zero_lt_succ 1)];simp only [Result.andThen];rw [Oper.upon_value];go_wp2;rw [run_callFunc_extern Tryz.func269 (by kernel_rfl) (by kernel_rfl) (by kernel_rfl) (e := Extern.AbiNoEscape.same) (by kernel_rfl)];rw [Lib.run_noEscape];simp only [Result.andThen];rw [Oper.upon_value];go_wp2;rw [Lib.run_from_unsafe w ⟨b, 0, none⟩ Tryz.underlying349 Tryz.underlying223 hj hsh zJk];simp only [Result.andThen];rw [Oper.upon_value];go_wp2;go_end0
   exact ⟨rfl, H.out.used _, (Below.refl B w).setCell (p := ⟨b, 0, none⟩) H.out.1 _⟩
 · have h0 := h.cell0;have H := Lh h;clear h;go_enter Tryz.func222, Tryz.ntmps222;go_wp2;rw [Lib.run_neq_ptr_same w _ Tryz.underlying223 hj];go_wp2;go_end0
   exact ⟨rfl, H.out, Below.refl B _⟩
set_option maxHeartbeats 2000000 in
set_option maxRecDepth 100000 in
theorem zD1 (B b : Nat) (bs : List Value) (s : ByteArray) (w : World) (h : Lib.IsBuilder tB t8 B b bs w) (hlen : bs.length + s.size <= 1000000000) (hBw : B <= w.heap.size) :
   Calls Tryz.prog 141 #[.pointer (some ⟨b, 0, none⟩), .string s] w fun e w' => e = .returned (.tuple #[.int .i64 s.size, .nilIface]) /\ Lib.BuilderAt tB t8 B b (.pointer (some ⟨b, 0, none⟩)) (bs ++ Lib.strCells s) w' /\ Below B w w' := by
 obtain ⟨i0, hi, hz0, hz1, hz2⟩ := info_parts zHp;have HC := Lh (zOe B b bs w h);clear h;go_enter Tryz.func141, Tryz.ntmps141;go_wp2_with (go_at_call 222; refine HC.out.mono ?_)
 rintro e w1 ⟨rfl, ⟨hB, v, hbk, hown, hne⟩, hb1⟩;have c0 : w1.cell? ⟨b, 0, none⟩ = some (.pointer (some ⟨b, 0, none⟩)) := by rw [Lib.cell_of_heap hbk]; rfl
 have c1 : w1.cell? ⟨b, 1, none⟩ = some v := by rw [Lib.cell_of_heap hbk]; rfl
 go_wp2_with (at_builtin; refine Lib.wpList_append_own_string _ rfl _ _ 87 9 rfl B t8 i0 Tryz.underlying87 Tryz.underlying9 hi hz0 hz1 hz2 _ _ _ rfl hown s rfl ?c3 ?c4 ?c5 ?_)
 case c3 => unfold maxLen; omega
 case c4 => omega
 case c5 => have := hb1.size; omega
 intro v' w2 hown' hgrow _;have hlt : b < w1.heap.size := Lib.BuilderAt.lt ⟨hB, v, hbk, hown, hne⟩;have hb2 : w2.heap[b]? = some (.cells #[.pointer (some ⟨b, 0, none⟩), v] tB (0, 0)) := (hgrow.block b hlt fun e => hne e.symm).trans hbk;have d0 : w2.cell? ⟨b, 0, none⟩ = some (.pointer (some ⟨b, 0, none⟩)) := by rw [Lib.cell_of_heap hb2]; rfl
 have d1 : w2.cell? ⟨b, 1, none⟩ = some v := by rw [Lib.cell_of_heap hb2]; rfl
 have f1 : w2.frozen? ⟨b, 1, none⟩ = false := Lib.frozen_of_heap hb2 1;obtain ⟨ao, n', cap, rfl⟩ : ∃ ao n' cap, v' = .slice ao n' cap := by
   rcases hown'.2 with ⟨hv, _⟩ | ⟨g, cap, cur, hv, _⟩ <;> exact ⟨_, _, _, hv⟩
 go_wp2;go_ret2;exact ⟨rfl, Lib.BuilderAt.put (T := tB) (e := t8) hB hb2 (bs' := bs ++ Lib.strCells s) (by simpa [Lib.strCells_length] using hown') zOq,
   (hb1.grown hgrow (by have := hb1.size; omega) (fun k hk => (hown.lt k hk).1)).setCell (p := ⟨b, 1, none⟩) hB _⟩
end
section
def uQ (l : List ByteArray) : Bool := decide (l ≠ [] /\ ∀ s ∈ l, s.size = 512)
set_option maxRecDepth 10000 in
theorem zMu (w : World) (S : Nat -> Prop) (v : Value) (l : List ByteArray) (h : yJ w S v l) :
   Calls Tryz.prog 296 #[v] w fun e w' => e = .returned (.bool (uQ l)) /\ w = w' := by
 obtain ⟨a, cap, rfl, h1, h2, h3⟩ := h.open_;clear h;unfold maxLen at h2;replace h3 := Lh h3;obtain ⟨n, hn⟩ : ∃ n, l.length = n := ⟨_, rfl⟩
 rw [hn] at h1 ⊢;have N := Lh hn;clear hn;go_enter Tryz.func296, Tryz.ntmps296;go_wp2;go_loop [7] (fun i => ∃ k : Nat, k <= n /\ i = .int .i64 k /\ ∀ j (hj : j < l.length), j < k -> (l[j]'hj).size = 512) (fun i => n - (intOf i).toNat)
 case atStart => exact ⟨0, by omega, rfl, fun j _ h => by omega⟩
 case round =>
   obtain ⟨k, hk, rfl, hA⟩ := hrel;replace hA := Lh hA;by_cases hlt : k < n
   · have hkl : k < l.length := by rw [N.out]; exact hlt
     obtain ⟨hz, b, o, rfl, -, -, hc⟩ := h3.out k hkl;unfold maxLen at hz;have HE := Lh (rfl : l[k]'hkl = l[k]'hkl);obtain ⟨s, hs⟩ : ∃ s, s = l[k]'hkl := ⟨_, rfl⟩
     rw [<- hs] at hc hz;have HS := Lh hs;clear hs;by_cases c : s.size = 512
     · have c2 : ((s.size : Int) != 512) = false := by simp; omega
       have C := Lh c;clear c;go_wp2;go_round
       case rel =>
         refine ⟨k + 1, by omega, by go_num, fun j hj hjk => ?_⟩;by_cases e : j = k
         · subst e; rw [<- HS.out]; exact C.out
         · exact hA.out j hj (by omega)
       case measure => simp [intOf]; omega
     · have c2 : ((s.size : Int) != 512) = true := by rw [bne_iff_ne]; omega
       have C := Lh c;clear c;go_wp2;go_ret;refine ⟨xP ?_, rfl⟩;unfold uQ;exact (decide_eq_false fun hh => C.out (HS.out ▸ hh.2 _ (List.getElem_mem hkl))).symm
   · obtain rfl : k = n := by omega
     go_wp2;go_ret;refine ⟨xP ?_, rfl⟩;unfold uQ;have e : (l ≠ [] /\ ∀ s ∈ l, s.size = 512) ↔ 0 < k := by
       constructor
       · intro hh;have := List.length_pos_iff.2 hh.1;rw [N.out] at this;exact this
       · intro hh;refine ⟨fun e => ?_, fun s hs => ?_⟩
         · have := N.out; rw [e] at this; simp at this; omega
         · obtain ⟨j, hj, rfl⟩ := List.mem_iff_getElem.1 hs;exact hA.out j hj (by have := N.out; omega)
     simp only [e]
theorem zJ7 (f : Nat -> ByteArray) (k : Nat) : qJ ((List.range (k + 1)).map f) = qJ ((List.range k).map f) ++ (vY (f k)).data.toList := by
 simp [qJ, List.range_succ]
theorem zGe (f : Nat -> ByteArray) (hf : ∀ i, i < 9 -> (f i).size = 64) (k : Nat) (hk : k <= 9) : (qJ ((List.range k).map f)).length = k * 63 := by
 rw [Qk _ fun s hs => ?_]
 · simp
 · obtain ⟨i, hi, rfl⟩ := List.mem_map.1 hs;exact hf i (by have := List.mem_range.1 hi; omega)
set_option maxRecDepth 10000 in
set_option maxHeartbeats 1000000 in
theorem zEg (w : World) (b : Nat) (f : Nat -> ByteArray) (ho : Own w b 9 (vG 9 f 9)) (hf : ∀ i, i < 9 -> (f i).size = 64) :
   Calls Tryz.prog 236 #[.slice (some ⟨b, 0, none⟩) 9 9] w fun e w' => e = .returned (.tuple #[.string (mX ((List.range 9).map f)), .bool (Qg ((List.range 9).map f))]) /\ Below w.heap.size w w' := by
 have HO := Lh ho;have HF := Lh hf;have HB := Lh (Lib.fresh_isBuilder tB t8 w);have B0 := (Below.refl w.heap.size w).alloc (Nat.le_refl _) (.cells #[.pointer none, .slice none 0 0] tB);have hb := ho.in_;clear ho hf;go_enter Tryz.func236, Tryz.ntmps236;go_wp2;go_loopw [10] (fun i wr => ∃ k : Nat, k <= 9 /\ i = .int .i64 k /\ Lib.IsBuilder tB t8 w.heap.size w.heap.size (Lib.byteCells (qJ ((List.range k).map f))) wr /\ Below w.heap.size w wr) (fun i wr => 9 - (intOf i).toNat)
 case atStart => exact ⟨0, by omega, rfl, HB.out, B0⟩
 case round =>
   obtain ⟨k, hk, rfl, hI, hL⟩ := hrel;have zL := hL.size;have O1 := HO.out.keep hL;obtain ⟨c1, c2, c3⟩ := O1.at_;replace O1 := Lh O1;replace hI := Lh hI;replace hL := Lh hL;by_cases hlt : k < 9
   · have hck : wr.cell? ⟨b, k, none⟩ = some (.string (f k)) := by
       rw [c1 k, xK 9 _ 9 k hlt, if_pos hlt]
     have zX := HF.out k hlt;obtain ⟨X, hX⟩ : ∃ X, X = f k := ⟨_, rfl⟩
     rw [<- hX] at hck zX;have HX := Lh hX;have x1 : (10 : Int) <= X.size := by omega
     have x2 : (11 : Int) <= X.size := by omega
     have x3 : ¬ (9223372036854775807 < min 10 X.size + (X.size - 11)) := by omega
     have zS := fN X zX;have SX := Lh (show X.extract 0 10 ++ X.extract 11 X.size = vY X from rfl);have ZX := Lh zX;have ZS := Lh zS;clear c1 c2 c3 hX zX zS;go_upto_region 5 with fail;refine zA (fun W => True) (0 :: 1 :: 2 :: 3 :: 4 :: []) ([]) (0 :: 1 :: 2 :: 3 :: 4 :: 5 :: []) (by kernel_rfl) (by kernel_rfl) rfl (by kernel_rfl) rfl (trivial) (by simp only [zU, List.filterMap_cons, List.filterMap_nil, List.getElem?_cons_zero, List.getElem?_cons_succ, Option.map_some]; exact rfl) ?_;iterate 5
       refine zC (v := ?_) rfl rfl (fun W hS => ?_) ?_;rotate_left
       · conv => lhs; simp [go_sem, x1, x2, x3]
         first | done | exact rfl
       simp only [Act.put, lA, lZ, lS]
     refine gI rfl rfl (by kernel_rfl) rfl fun K hK => ?_
     rw [SX.out];go_wp2_with fail;have hlen := zGe f HF.out k hk;have HI2 : Lib.IsBuilder tB t8 w.heap.size w.heap.size (Lib.byteCells (qJ ((List.range k).map f))) wr.drew := hI.out;refine (zD1 _ _ _ (vY X) wr.drew HI2 (by rw [Lib.byteCells_length, hlen, ZS.out]; omega) zL).mono ?_;rintro e w2 ⟨rfl, hBa, hb2⟩;have hI3 : Lib.IsBuilder tB t8 w.heap.size w.heap.size (Lib.byteCells (qJ ((List.range (k + 1)).map f))) w2 := by
       rw [zJ7, <- HX.out];have : Lib.byteCells (qJ ((List.range k).map f) ++ (vY X).data.toList) = Lib.byteCells (qJ ((List.range k).map f)) ++ Lib.strCells (vY X) := by simp [Lib.byteCells, Lib.strCells]
       rw [this];exact .inr hBa
     replace hI3 := Lh hI3;have hL2 := Lh (hL.out.drew.trans hb2);clear hBa hb2 HI2 hlen;go_wp2;refine hK _ _ ?_;clear hK K;refine zR ?_;go_wp2;go_roundw
     case rel => exact ⟨k + 1, by omega, by go_num, hI3.out, hL2.out⟩
     case measure => simp [intOf]; omega
   · obtain rfl : k = 9 := by omega
     clear c1 c2 c3;have hlen := zGe f HF.out 9 (by omega);have hS := Tryz.Builder_String_any w.heap.size w.heap.size _ wr hI.out zL;obtain ⟨T, hT⟩ : ∃ T : ByteArray, T = ⟨(qJ ((List.range 9).map f)).toArray⟩ := ⟨_, rfl⟩
     have hTz : T.size = 567 := by rw [hT, mE, hlen]
     have hG : T.extract 0 512 = mX ((List.range 9).map f) := by rw [hT]; rfl
     rw [<- hT] at hS;obtain ⟨ss, hss⟩ : ∃ ss, ss = (List.range 9).map f := ⟨_, rfl⟩
     rw [<- hss] at hG;have hGs : (mX ss).size = 512 := by rw [<- hG, ByteArray.size_extract]; omega
     obtain ⟨P, hP⟩ : ∃ P, P = mX ss := ⟨_, rfl⟩
     rw [<- hP] at hG hGs;have x1 : (512 : Int) <= T.size := by omega
     have HG := Lh hG;have HSS := Lh hss;have HP := Lh hP;have HSP := Lh (fun w => Yi P w (by omega));clear hT hTz hG hP hGs hlen hss;have HS := Lh hS;clear hS;go_upto_region 8 with (go_at_call 143; refine HS.out.mono ?_; rintro e w2 ⟨rfl, hb2⟩)
     rw [HG.out];have hL2 := Lh (hL.out.trans hb2);clear hb2;go_wp2_with fail;refine (HSP.out w2).mono ?_;rintro e w3 ⟨b3, rfl, o3, z3, hb3⟩;have hL3 := Lh (then_ hL2.out hb3 hL2.out.size);have O3 := (HO.out.keep hL3.out).at_.1;have O4 := o3.at_.1;clear hb3 o3 z3;have cx : ∀ j, j < (qI P).length -> w3.cell? ⟨b3, 0 + j, none⟩ = some (.string ((qI P).getD j ByteArray.empty)) := fun j hj => by
       have hj9 : j < 9 := by simpa [qI] using hj
       rw [Nat.zero_add, O4 j, xK 9 _ 9 j hj9, if_pos hj9];simp [qI, hj9]
     have cy : ∀ j, j < ss.length -> w3.cell? ⟨b, 0 + j, none⟩ = some (.string (ss.getD j ByteArray.empty)) := fun j hj => by
       rw [HSS.out] at hj ⊢;have hj9 : j < 9 := by simpa using hj
       rw [Nat.zero_add, O3 j, xK 9 _ 9 j hj9, if_pos hj9];simp [hj9]
     have l1 : (qI P).length = 9 := by simp [qI]
     have l2 : ss.length = 9 := by rw [HSS.out]; simp
     have HQ := Tryz.slices_Equal_string b3 0 9 9 b 0 9 9 (qI P) ss w3 (by omega) (by omega) (by omega) (by omega) cx cy;have e1 : decide ((qI P).take 9 = ss.take 9) = Qg ss := by
       rw [List.take_of_length_le (by omega), List.take_of_length_le (by omega)];unfold Qg;rw [<- HP.out]
     rw [e1] at HQ;replace HQ := Lh HQ;clear cx cy O3 O4 e1 l1 l2;go_wp2_with fail;refine HQ.out.mono ?_;rintro e w4 ⟨rfl, q, rfl⟩;go_wp2;go_ret2;exact ⟨by rw [<- HSS.out, <- HP.out]; rfl, zM hL3.out q⟩
end
section
structure yH where
 from_ : Nat
 size : Nat
 used : Nat
 next : Nat
 failed : Bool
structure yH.Ok (l : yH) : Prop where
 fit : l.from_ + l.size <= 65536
 used : l.used <= l.size
 next : l.next <= 18446744073709551615
def yH.left (l : yH) : Nat := if l.failed then 0 else l.size - l.used
def yH.plus (l : yH) (n : Nat) : yH := { l with used := l.used + (1 + 9 * n), next := (l.next + 1) % 18446744073709551616 }
def yH.cells (l : yH) (d : Nat) : Array Value := #[.pointer (some ⟨d, 0, none⟩), .int .i64 (l.from_ : Int), .int .i64 (l.size : Int), .int .i64 (l.used : Int), .int .u64 (l.next : Int), .bool l.failed]
def yA (w : World) (lg d : Nat) (l : yH) : Prop := Own w lg 246 (l.cells d)
theorem yH.left_le (l : yH) : l.left <= l.size := by unfold yH.left; split <;> omega
theorem yH.plus_ok {l : yH} (h : l.Ok) {n : Nat} (hf : l.failed = false) (hn : 1 + 9 * n <= l.left) : (l.plus n).Ok := by
 have := h.used;unfold yH.left at hn;rw [hf] at hn;simp only [Bool.false_eq_true, if_false] at hn;exact ⟨h.fit, by show l.used + (1 + 9 * n) <= l.size; omega, by show (l.next + 1) % 18446744073709551616 <= _; omega⟩
section
variable {w : World} {lg d : Nat} {l : yH}
set_option maxRecDepth 10000 in
theorem fW (h : yA w lg d l) (hk : l.Ok) : Calls Tryz.prog 233 #[.pointer (some ⟨lg, 0, none⟩)] w fun e w' => e = .returned (.int .i64 (l.left : Nat)) /\ ∃ q, w' = w.drewN q := by
 have h1 := hk.used;have h2 := hk.fit;obtain ⟨o1, o2, o3⟩ := Own.at_ (show Own w lg _ (l.cells d) from h);unfold yH.left;obtain ⟨fr, sz, us, nx, fl⟩ := l;simp only at h1 h2;unfold yH.cells at o1;replace h := Lh (show Own w lg _ (yH.cells ⟨fr, sz, us, nx, fl⟩ d) from h);clear hk;simp only at o1;cases fl with
 | true =>
   go_enter Tryz.func233, Tryz.ntmps233;go_wp2;go_ret;exact ⟨rfl, 0, rfl⟩
 | false =>
   go_enter Tryz.func233, Tryz.ntmps233;go_upto_region 3 with fail;have hw : IntKind.i64.wrap ((sz : Int) - (us : Int)) = (sz : Int) - (us : Int) := by rw [IntKind.wrap_i64]; omega
   have O := Lh (show Own w lg 246 #[.pointer (some ⟨d, 0, none⟩), .int .i64 (fr : Int), .int .i64 (sz : Int), .int .i64 (us : Int), .int .u64 (nx : Int), .bool false] from h.out);refine zA (fun W => Own W lg 246 #[.pointer (some ⟨d, 0, none⟩), .int .i64 (fr : Int), .int .i64 (sz : Int), .int .i64 (us : Int), .int .u64 (nx : Int), .bool false]) (0 :: 1 :: 2 :: 3 :: 4 :: 5 :: 6 :: 7 :: 8 :: 9 :: []) (3 :: 7 :: []) (0 :: 1 :: 2 :: 3 :: 4 :: 5 :: 6 :: 7 :: 8 :: 9 :: []) (by kernel_rfl) (by kernel_rfl) rfl (by kernel_rfl) rfl (O.out.drawn) (by simp only [zU, List.filterMap_cons, List.filterMap_nil, List.getElem?_cons_zero, List.getElem?_cons_succ, Option.map_some]; exact rfl) ?_;iterate 10
     refine zC (v := ?_) rfl rfl (fun W hS => ?_) ?_;rotate_left
     · first
         | (conv => lhs; simp [go_sem, hw]
            first | done | exact rfl)
         | (have hS := hS rfl
            obtain ⟨q1, q2, q3⟩ := Own.at_ hS;conv => lhs; simp [go_sem, *, hw]
            first | done | exact rfl)
     simp only [Act.put, lA, lZ, lS]
   refine zR ?_;go_wp2;go_ret;exact ⟨jK (by first | omega | (simp only [Bool.false_eq_true, if_false]; omega)), 1, rfl⟩
theorem Yr (h : yA w lg d l) : Calls Tryz.prog 182 #[.pointer (some ⟨lg, 0, none⟩)] w fun e w' => e = .returned (.int .u64 (l.next : Nat)) /\ w = w' := by
 obtain ⟨o1, o2, o3⟩ := Own.at_ (show Own w lg _ (l.cells d) from h);unfold yH.cells at o1;clear h;go_enter Tryz.func182, Tryz.ntmps182;go_wp2;go_ret;exact ⟨rfl, rfl⟩
theorem zDd (h : yA w lg d l) (hf : l.failed = false) : Calls Tryz.prog 183 #[.pointer (some ⟨lg, 0, none⟩)] w fun e w' => e = .returned (.int .i64 0) /\ yA w' lg d { l with used := 0 } /\ Chg (· = lg) w w' /\ w'.heap.size = w.heap.size := by
 have H := Lh h;obtain ⟨o1, o2, o3⟩ := Own.at_ (show Own w lg _ (l.cells d) from h);unfold yH.cells at o1;rw [hf] at o1;clear h hf;go_enter Tryz.func183, Tryz.ntmps183;go_wp2;go_ret;exact ⟨rfl, Own.put H.out 3 _, yT _ _ _ _, by simp [World.setCell]⟩
set_option maxRecDepth 10000 in
theorem zGn (h : yA w lg d l) (hk : l.Ok) (n : Nat) (hn : n <= 1000) : Calls Tryz.prog 164 #[.pointer (some ⟨lg, 0, none⟩), .int .i64 (n : Int)] w fun e w' => e = .returned (.tuple #[]) /\ yA w' lg d (l.plus n) /\ Chg (· = lg) w w' /\ w'.heap.size = w.heap.size := by
 have h1 := hk.used;have h2 := hk.fit;have h3 := hk.next;have H := Lh h;have HS := Lh (fun w => zA7 n w (by omega));unfold yA yH.plus at *;obtain ⟨fr, sz, us, nx, fl⟩ := l;unfold yH.cells at *;simp only at *;clear h hk;go_enter Tryz.func164, Tryz.ntmps164;go_upto_region 0 with fail;refine zA (fun W => Own W lg 246 #[.pointer (some ⟨d, 0, none⟩), .int .i64 (fr : Int), .int .i64 (sz : Int), .int .i64 (us : Int), .int .u64 (nx : Int), .bool fl]) (0 :: 1 :: 2 :: 3 :: 4 :: 6 :: 7 :: 8 :: []) (3 :: []) (0 :: 1 :: 2 :: 3 :: 4 :: 5 :: 6 :: 7 :: 8 :: 9 :: []) (by kernel_rfl) (by kernel_rfl) rfl (by kernel_rfl) rfl (H.out.drawn) (by simp only [zU, List.filterMap_cons, List.filterMap_nil, List.getElem?_cons_zero, List.getElem?_cons_succ, Option.map_some]; exact rfl) ?_;iterate 5
   refine zC (v := ?_) rfl rfl (fun W hS => ?_) ?_;rotate_left
   · first
       | (conv => lhs; simp [go_sem]
          first | done | exact rfl)
       | (have hS := hS rfl
          obtain ⟨q1, q2, q3⟩ := Own.at_ hS;conv => lhs; simp [go_sem, *]
          first | done | exact rfl)
   simp only [Act.put, lA, lZ, lS]
 refine zQ rfl rfl fun K hK => ?_
 go_wp2_with (go_at_call 237; refine (HS.out _).mono ?_; rintro e w' ⟨rfl, rfl⟩)
 refine hK _ _ H.out.drawn ?_;clear hK K;obtain ⟨A, hA⟩ : ∃ A : Nat, A = us + (1 + 9 * n) := ⟨_, rfl⟩
 have hw : (us : Int) + (1 + 9 * (n : Int)) = (A : Int) := by omega
 have hw2 : IntKind.i64.wrap ((A : Int)) = (A : Int) := by rw [IntKind.wrap_i64]; omega
 have HA := Lh hA;clear hA;iterate 3
   refine zC (v := ?_) rfl rfl (fun W hS => ?_) ?_;rotate_left
   · conv => lhs; simp [go_sem, hw, hw2]
     first | done | exact rfl
   simp only [Act.put, lA, lZ, lS]
 refine gI rfl rfl (by kernel_rfl) rfl fun K hK => ?_
 obtain ⟨o1, o2, o3⟩ := Own.at_ H.out.drawn;go_wp2;clear o1 o2;refine hK _ _ ?_;clear hK K;refine zR ?_;obtain ⟨W1, hW1⟩ : ∃ W1, W1 = (w.setCell ⟨lg, 3, none⟩ (.int .i64 (A : Int))).drew := ⟨_, rfl⟩
 rw [<- hW1];have O2 : Own W1 lg 246 #[.pointer (some ⟨d, 0, none⟩), .int .i64 (fr : Int), .int .i64 (sz : Int), .int .i64 (A : Int), .int .u64 (nx : Int), .bool fl] := hW1 ▸ (Own.put H.out 3 (.int .i64 (A : Int))).drawn;have G2 : Chg (· = lg) w W1 := hW1 ▸ (yT w lg 3 _).drew;have z2 : W1.heap.size = w.heap.size := by rw [hW1]; simp [World.setCell]
 have Z2 := Lh z2;clear hW1 z2;replace O2 := Lh O2;replace G2 := Lh G2;obtain ⟨o1, o2, o3⟩ := Own.at_ O2.out;go_wp2;go_end0
 refine ⟨rfl, ?_, G2.out.same (yT _ lg 4 _), by simp [World.setCell]; exact Z2.out⟩;have e : (((nx + 1) % 18446744073709551616 : Nat) : Int) = ((nx : Int) + 1) % 18446744073709551616 := by omega
 have := Own.put O2.out 4 (.int .u64 (((nx : Int) + 1) % 18446744073709551616));rw [HA.out] at this;rw [e];first
   | exact this
   | (simp [IntKind.wrap_u64] at this ⊢; exact this)
end
end
section
def cN (x : ByteArray) : Nat := if isM x then zT x 8 2 else 0
theorem cN_lt (x : ByteArray) : cN x < 65536 := by
 unfold cN; split
 · have := vW x 8 2; omega
 · omega
theorem get2 (x : ByteArray) (w : World) :
   Calls Tryz.prog 160 #[.string (mT x), .int .i64 0, .int .i64 2] w fun e w' => (∃ ok : Bool, e = .returned (.tuple #[.int .u64 (cN x : Nat), .bool ok])) /\ w = w' := by
 cases h : isM x with
 | true =>
   have hz := zBc x h;have hx := (of_decide_eq_true h).1;have e : zT (mT x) 0 2 = cN x := by
     unfold cN mT;rw [if_pos h, if_pos h, xY];intro i hi;rw [yR x 8 56 (0 + i) (by omega) (by omega)];congr 1; omega
   have := jE (mT x) 0 2 w (by omega) (by omega) (by omega);rw [e] at this;refine this.mono ?_;rintro e w' ⟨rfl, rfl⟩;exact ⟨⟨true, rfl⟩, rfl⟩
 | false =>
   have e : mT x = ⟨#[]⟩ := by unfold mT; rw [if_neg (by simp [h])]
   have e2 : cN x = 0 := by unfold cN; rw [if_neg (by simp [h])]
   rw [e, e2];refine (zB5 ⟨#[]⟩ 0 2 w (by decide) (by decide) (by decide) (by decide) (by decide) (by intro hh; exact absurd hh.2.2.2 (by decide))).mono ?_;rintro e w' ⟨rfl, rfl⟩;exact ⟨⟨false, rfl⟩, rfl⟩
theorem zKv (seq n : Nat) : isM (yN seq n) = true := Zd seq _ (by rw [gG]; omega)
theorem zOk (x : ByteArray) (seq left : Nat) : cnt x seq left = if cN x <= 64 /\ 1 + 9 * cN x <= left /\ x = yN seq (cN x) then cN x else 0 := by
 cases h : isM x with
 | true =>
   have e : cN x = zT x 8 2 := by unfold cN; rw [if_pos h]
   rw [e];unfold cnt;by_cases h0 : zT x 8 2 = 0
   · rw [if_neg (by omega)];split <;> omega
   · by_cases c : zT x 8 2 <= 64 /\ 1 + 9 * zT x 8 2 <= left /\ x = yN seq (zT x 8 2)
     · rw [if_pos c, if_pos ⟨by omega, c⟩]
     · rw [if_neg c, if_neg (fun hh => c hh.2)]
 | false =>
   have e : cN x = 0 := by unfold cN; rw [if_neg (by simp [h])]
   rw [e];have hn : ∀ n, x ≠ yN seq n := fun n e => by rw [e, zKv] at h; cases h
   rw [zBu x seq left fun n _ _ => hn n];split <;> rfl
section
variable {w : World} {lg d : Nat} {l : yH}
set_option maxRecDepth 10000 in
set_option maxHeartbeats 1000000 in
theorem zHc (h : yA w lg d l) (hk : l.Ok) (x : ByteArray) (hx : x.size <= 9223372036854775807) : Calls Tryz.prog 235 #[.pointer (some ⟨lg, 0, none⟩), .string x] w fun e w' => e = .returned (.int .i64 (cnt x l.next l.left : Nat)) /\ Below w.heap.size w w' := by
 have HG := Lh (Yo x w hx);have HW := Lh (get2 x);have hN := cN_lt x;have hn := hk.next;have hl : l.left <= 65536 := by have := l.left_le; have := hk.fit; omega
 have HM := Lh (fun w => zFy l.next (cN x) w hn (by omega));have HS := Lh (fun w => zA7 (cN x) w (by omega));have HE := Lh (zOk x l.next l.left);have H := Lh h;have HK := Lh hk;obtain ⟨R, hR⟩ : ∃ R, cnt x l.next l.left = R := ⟨_, rfl⟩
 rw [hR] at HE ⊢;clear h hk hR;have hmn := zAa x;generalize cN x = N at *
 generalize mN x = MN at *
 generalize mT x = MT at *
 generalize isM x = MI at *
 obtain ⟨M, hM⟩ : ∃ M, M = yN l.next N := ⟨_, rfl⟩
 rw [<- hM] at HM HE;clear hM;have wN : IntKind.i64.wrap (N : Int) = N := by rw [IntKind.wrap_i64]; omega
 go_enter Tryz.func235, Tryz.ntmps235;go_upto_region 4 with (first
   | (go_at_call 230; refine HG.out.mono ?_; rintro e w1 ⟨rfl, hb1⟩)
   | (go_at_call 160; refine (HW.out _).mono ?_; rintro e w' ⟨⟨ok, rfl⟩, rfl⟩))
 have H1 : yA w1 lg d l := Own.keep H.out hb1;have HL := Lh (fW H1 HK.out);have o4 : w1.cell? ⟨lg, 4, none⟩ = some (.int .u64 (l.next : Int)) := by
   have := (Own.at_ (show Own w1 lg _ (l.cells d) from H1)).1 4;simpa [yH.cells] using this
 have L1 := Lh hb1;replace H1 := Lh H1;clear hb1;generalize l.left = LL at *
 have FIN : Hid (∀ (W : World) (r : Nat), Below w1.heap.size w1 W -> R = r -> Ending.returned (.int .i64 (r : Int)) = Ending.returned (.int .i64 (R : Int)) /\ Below w.heap.size w W) := Lh fun W r hb e => ⟨by rw [e], then_ L1.out hb L1.out.size⟩
 by_cases c1 : N <= 64
 · have d1 : decide ((64 : Int) < (N : Int)) = false := by simp; omega
   by_cases c2 : 1 + 9 * N <= LL
   · have d2 : decide ((LL : Int) < 1 + 9 * (N : Int)) = false := by simp; omega
     by_cases c3 : x = M
     · have d3 : (x.toList == M.toList) = true := by rw [c3]; simp
       have e := HE.out;rw [if_pos ⟨c1, c2, c3⟩] at e;have E := Lh e;clear HE e c3;go_wp2_with (first
         | (go_at_call 237; refine (HS.out _).mono ?_; rintro e w' ⟨rfl, rfl⟩)
         | (go_at_call 233; refine HL.out.mono ?_; rintro e w' ⟨rfl, q, rfl⟩)
         | (go_at_call 280; refine (HM.out _).mono ?_; rintro e w2 ⟨rfl, hb2⟩))
       go_ret;exact FIN.out _ _ ((zM (Below.refl _ _) q).trans hb2) E.out
     · have d3 : (x.toList == M.toList) = false := zA8 c3;have e := HE.out;rw [if_neg (fun hh => c3 hh.2.2)] at e;have E := Lh e;clear HE e c3;go_wp2_with (first
         | (go_at_call 237; refine (HS.out _).mono ?_; rintro e w' ⟨rfl, rfl⟩)
         | (go_at_call 233; refine HL.out.mono ?_; rintro e w' ⟨rfl, q, rfl⟩)
         | (go_at_call 280; refine (HM.out _).mono ?_; rintro e w2 ⟨rfl, hb2⟩))
       go_ret;exact FIN.out _ _ ((zM (Below.refl _ _) q).trans hb2) E.out
   · have d2 : decide ((LL : Int) < 1 + 9 * (N : Int)) = true := by simp; omega
     have e := HE.out;rw [if_neg (fun hh => c2 hh.2.1)] at e;have E := Lh e;clear HE e;go_wp2_with (first
       | (go_at_call 237; refine (HS.out _).mono ?_; rintro e w' ⟨rfl, rfl⟩)
       | (go_at_call 233; refine HL.out.mono ?_; rintro e w' ⟨rfl, q, rfl⟩)
       | (go_at_call 280; refine (HM.out _).mono ?_; rintro e w2 ⟨rfl, hb2⟩))
     go_ret;exact FIN.out _ _ (zM (Below.refl _ _) q) E.out
 · have d1 : decide ((64 : Int) < (N : Int)) = true := by simp; omega
   have e := HE.out;rw [if_neg (fun hh => c1 hh.1)] at e;have E := Lh e;clear HE e;go_wp2_with (first
     | (go_at_call 237; refine (HS.out _).mono ?_; rintro e w' ⟨rfl, rfl⟩)
     | (go_at_call 233; refine HL.out.mono ?_; rintro e w' ⟨rfl, q, rfl⟩)
     | (go_at_call 280; refine (HM.out _).mono ?_; rintro e w2 ⟨rfl, hb2⟩))
   go_ret;exact FIN.out _ _ (Below.refl _ _) E.out
end
end
section
def vw (s : St) (k : Nat) : ByteArray := match xR s.wr (k : Int) with | some x => x.2 | none => xH s.sure (k : Int)
theorem Vz (n : Nat) (s : St) (hd : s.down = false) (k : Nat) (hk : k < n) : uJ n s (k : Int) = (vw s k, 0) := by
 unfold uJ vw;rw [hd, if_neg (by simp), if_neg (by omega)];cases xR s.wr (k : Int) <;> rfl
theorem mF {n : Nat} {s : St} (h : s.Ok n) (k : Nat) (hk : k < n) : (vw s k).size = 64 := by
 unfold vw;cases hl : xR s.wr (k : Int) with
 | some x => exact (h.wr x (gY hl).1).2
 | none =>
   show (((s.sure.drop ((k : Int).toNat * 64)).take 64).toArray).size = 64
   have := h.len;simp;omega
section
variable {w : World} {lg d sb mb sc : Nat} {wv : Value} {N : Nat} {s : St} {l : yH}
set_option maxRecDepth 10000 in
set_option maxHeartbeats 1000000 in
theorem zA1 (hL : yA w lg d l) (hD : zI w d sb mb sc wv N s) (hd : s.down = false) (at_ n : Nat) (hn : n <= 1000) (hf : l.from_ + l.used + at_ + n <= N) :
   Calls Tryz.prog 234 #[.pointer (some ⟨lg, 0, none⟩), .int .i64 (at_ : Int), .int .i64 (n : Int)] w fun e w' => ∃ b, e = .returned (.tuple #[.slice (some ⟨b, 0, none⟩) n n, .int .i64 0]) /\ Own w' b 9 (vG n (fun i => vw s (l.from_ + l.used + at_ + i)) n) /\ w.heap.size <= b /\ Below w.heap.size w w' := by
 have hN := hD.ok.max;obtain ⟨g, hg⟩ : ∃ g : Nat -> ByteArray, g = fun i => vw s (l.from_ + l.used + at_ + i) := ⟨_, rfl⟩
 have HR := Lh (fun (k : Nat) (hk : k < n) (W : World) (hD : zI W d sb mb sc wv N s) => show Calls Tryz.prog 158 #[.pointer (some ⟨d, 0, none⟩), .int .i64 ((l.from_ + l.used + at_ + k : Nat) : Int)] W fun e w' => e = .returned (.tuple #[.string (g k), .int .i64 0]) /\ Below W.heap.size W w' from (by
   have := gJ hD ((l.from_ + l.used + at_ + k : Nat) : Int) (gM (by omega) (by omega));rw [Vz N s hd _ (by omega)] at this;rw [hg];exact this))
 rw [<- hg];have HL := Lh hL;have HD := Lh hD;have HM := mM n (by omega) g w;have HO := Own.made w 9 (vG n g 0);obtain ⟨W0, hW0⟩ : ∃ W0, W0 = w.alloc (.cells (vG n g 0) 9) := ⟨_, rfl⟩
 have L0 : Below w.heap.size w W0 := hW0 ▸ (Below.refl _ _).alloc (Nat.le_refl _) _;rw [<- hW0] at HM HO;replace HO := Lh HO;replace L0 := Lh L0;clear hW0 hL hD hd hg;obtain ⟨fr, sz, us, nx, fl⟩ := l;simp only at hf HR;go_enter Tryz.func234, Tryz.ntmps234;go_wp2;clear HM;go_loopw [16] (fun i wr => ∃ k : Nat, k <= n /\ i = .int .i64 k /\ Own wr w.heap.size 9 (vG n g k) /\ Below w.heap.size w wr) (fun i wr => n - (intOf i).toNat)
 case atStart => exact ⟨0, by omega, rfl, HO.out, L0.out⟩
 case round =>
   obtain ⟨k, hk, rfl, hO, hL⟩ := hrel;have hsz := hL.size;replace hO := Lh hO;replace hL := Lh hL;by_cases hlt : k < n
   · have O1 : Own wr lg 246 #[.pointer (some ⟨d, 0, none⟩), .int .i64 (fr : Int), .int .i64 (sz : Int), .int .i64 (us : Int), .int .u64 (nx : Int), .bool fl] := Own.keep HL.out hL.out;replace O1 := Lh O1;have R1 := Lh (HR.out k hlt wr.drew (HD.out.below hL.out.drew));have e1 : ((fr + us + at_ + k : Nat) : Int) = (fr : Int) + (us : Int) + (at_ : Int) + (k : Int) := by omega
     rw [e1] at R1;clear e1;go_upto_region 5 with fail;refine zA (fun W => Own W lg 246 #[.pointer (some ⟨d, 0, none⟩), .int .i64 (fr : Int), .int .i64 (sz : Int), .int .i64 (us : Int), .int .u64 (nx : Int), .bool fl]) (0 :: 1 :: 2 :: 3 :: 4 :: 5 :: 6 :: 7 :: 8 :: 9 :: 10 :: 11 :: 12 :: 13 :: 14 :: 15 :: 16 :: 18 :: 19 :: 20 :: 21 :: 22 :: []) (3 :: 7 :: 11 :: []) (0 :: 1 :: 2 :: 3 :: 4 :: 5 :: 6 :: 7 :: 8 :: 9 :: 10 :: 11 :: 12 :: 13 :: 14 :: 15 :: 16 :: 17 :: 18 :: 19 :: 20 :: 21 :: 22 :: []) (by kernel_rfl) (by kernel_rfl) rfl (by kernel_rfl) rfl (O1.out.drawn) (by simp only [zU, List.filterMap_cons, List.filterMap_nil, List.getElem?_cons_zero, List.getElem?_cons_succ, Option.map_some]; exact rfl) ?_;iterate 17
       refine zC (v := ?_) rfl rfl (fun W hS => ?_) ?_;rotate_left
       · first
           | (conv => lhs; simp [go_sem]
              first | done | exact rfl)
           | (have hS := hS rfl
              obtain ⟨q1, q2, q3⟩ := Own.at_ hS;conv => lhs; simp [go_sem, *]
              first | done | exact rfl)
       simp only [Act.put, lA, lZ, lS]
     refine zQ rfl rfl fun K hK => ?_
     go_wp2_with fail;refine R1.out.mono ?_;rintro e w2 ⟨rfl, hb2⟩;go_wp2;refine hK _ _ (Own.keep O1.out.drawn hb2) ?_;clear hK K;iterate 5
       refine zC (v := ?_) rfl rfl (fun W hS => ?_) ?_;rotate_left
       · conv => lhs; simp [go_sem]
         first | done | exact rfl
       simp only [Act.put, lA, lZ, lS]
     refine zR ?_;have hL2 := Lh (then_ hL.out.drew hb2 hL.out.drew.size);have hO2 : Own w2 w.heap.size 9 (vG n g k) := Own.keep hO.out.drawn hb2;obtain ⟨c1, c2, c3⟩ := hO2.at_;have c4 := c1 k;rw [xK n g k k hlt] at c4;have c5 := c2 k;replace hO2 := Lh hO2;clear c1 c2 hb2;go_wp2;go_roundw
     case rel =>
       refine ⟨k + 1, by omega, by go_num, ?_, hL2.out.setCell (Nat.le_refl _) _⟩;have := hO2.out.put k (.string (g k));rw [Qp n g k hlt] at this;exact this
     case measure => simp [intOf]; omega
   · obtain rfl : k = n := by omega
     go_wp2;go_ret2;exact ⟨_, rfl, hO.out, Nat.le_refl _, hL.out⟩
end
end
end Go.Proofs.YthijgebmoadgkaaGreatDoor
