import Derived.Test.YthijgebmoadgkaaGreatDoorPgrR
set_option linter.unusedVariables false
set_option linter.unusedSimpArgs false
namespace Go.Proofs.YthijgebmoadgkaaGreatDoor
open Go.ChangeShapes Go.WideShapes Go.ChangeAt Go.RowKit
section
def PS.used (P : PS) : Nat := rdU (P.view 0).1.2
def PS.free (P : PS) : Nat := rdF (P.view 0).1.2
def PS.root (P : PS) : Nat -> Nat := rdR (P.view 0).1.2
theorem PS.Ok.used {P : PS} (h : P.Ok) : 1 <= P.used /\ P.used <= P.most /\ P.free < P.used := ⟨h.hd.lo, h.hd.hi, h.hd.free⟩
section
variable {w w' : World} {B Bp d p c : Nat} {P : PS}
def Ask (w w' : World) (B Bp d p c : Nat) (P : PS) : Prop := zF w' B Bp d p c P /\ Chg (Po.PT w Bp) w w'
theorem Ask.same (h : zF w B Bp d p c P) : Ask w w B Bp d p c P := ⟨h, Chg.refl _ _⟩
theorem Ask.then_ {w2 : World} {c2 : Nat} (h : Ask w w' B Bp d p c P) (k : Ask w' w2 B Bp d p c2 P) : Ask w w2 B Bp d p c2 P := ⟨k.1, yU h.2 k.2⟩
theorem Ask.below {w2 : World} (h : Ask w w' B Bp d p c P) (hb : Below w'.heap.size w' w2) : Ask w w2 B Bp d p c P := ⟨h.1.below hb, xD h.2 hb⟩
theorem Ask.from_ {w1 : World} (hb : Below w.heap.size w w1) (h : Ask w1 w' B Bp d p c P) : Ask w w' B Bp d p c P := ⟨h.1, yU (Chg.of hb) h.2⟩
theorem Ask.more (h : Ask w w' B Bp d p c P) {c' : Nat} (hc : c <= c') : Ask w w' B Bp d p c' P := ⟨h.1.more hc, h.2⟩
theorem zF.cells (h : zF w B Bp d p c P) : ∃ lg lm pl, Own w p 150 #[.pointer (some ⟨d, 0, none⟩), .int .i64 (P.ll : Int), .int .u64 (P.seq : Int), .pointer (some ⟨lg, 0, none⟩), .map (some lm), .int .i64 (P.room : Int), .pointer (some ⟨pl, 0, none⟩), .bool P.failed] := by
 obtain ⟨sb, mb, sc, wv, lg, lm, pl, R, h⟩ := h;exact ⟨lg, lm, pl, h.own⟩
theorem zF.cell (h : zF w B Bp d p c P) {q : Nat} {T : TypeId} {cs : Array Value} (ho : Own w q T cs) (hT : PgT T) (h0 : ∀ x, cs[0]? ≠ some (.int .u8 x)) (i : Nat) (v : Value) : zF (w.setCell ⟨q, i, none⟩ v) B Bp d p c P := by
 obtain ⟨sb, mb, sc, wv, lg, lm, pl, R, h⟩ := h;exact ⟨sb, mb, sc, wv, lg, lm, pl, R, h.cell ho hT h0 i v⟩
theorem Vo {q : Nat} {T : TypeId} (hT : PgT T) : ∀ (vs : List Value) (i : Nat) (w : World) (cs : Array Value), zF w B Bp d p c P -> Own w q T cs -> (∀ x, cs[0]? ≠ some (.int .u8 x)) -> (∀ v ∈ vs, ∀ x, v ≠ .int .u8 x) -> zF (w.setCells q i vs) B Bp d p c P
 | [], _, _, _, h, _, _, _ => h
 | v :: vs, i, w, cs, h, ho, h0, h1 => by
   refine Vo hT vs (i + 1) _ _ (h.cell ho hT h0 i v) (ho.put i v) (fun x => ?_) (fun u hu => h1 u (by simp [hu]));rw [Array.getElem?_setIfInBounds];split
   · split
     · intro e; exact h1 v (by simp) x (Option.some.inj e)
     · simp
   · exact h0 x
theorem Ask.cells {q : Nat} {T : TypeId} {cs : Array Value} (h : Ask w w' B Bp d p c P) (ho : Own w' q T cs) (hT : PgT T) (h0 : ∀ x, cs[0]? ≠ some (.int .u8 x)) (hq : w.heap.size <= q) (vs : List Value) (h1 : ∀ v ∈ vs, ∀ x, v ≠ .int .u8 x) : Ask w (w'.setCells q 0 vs) B Bp d p c P :=
 ⟨Vo hT vs 0 w' cs h.1 ho h0 h1, vB (.inr hq) vs w' 0 h.2⟩
theorem jB (h : zF w B Bp d p c P) : Calls Tryz.prog 76 #[.pointer (some ⟨d, 0, none⟩)] w fun e w' => e = .returned (.bool P.s.down) /\ w = w' := by
 obtain ⟨sb, mb, sc, wv, lg, lm, pl, R, h⟩ := h;exact fO h.disk
theorem mO (h : zF w B Bp d p c P) (hd : P.s.down = false) (no : Nat) (hno : no < P.most) (hc : c + 2 < 1000000) : Calls Tryz.prog 82 #[.pointer (some ⟨p, 0, none⟩), .int .i64 (no : Int)] w fun e w' => e = .returned (mY no (P.view no)) /\ Ask w w' B Bp d p (c + 2) P := by
 obtain ⟨sb, mb, sc, wv, lg, lm, pl, R, h⟩ := h;refine (zKg h hd no hno hc).mono ?_;rintro e w2 ⟨rfl, ⟨R', h2⟩, hc2⟩;exact ⟨rfl, ⟨sb, mb, sc, wv, lg, lm, pl, R', h2⟩, hc2⟩
theorem zG1 (h : zF w B Bp d p c P) : Calls Tryz.prog 65 #[.pointer (some ⟨p, 0, none⟩)] w fun e w' => e = .returned (.int .i64 (P.most : Int)) /\ Below w.heap.size w w' := by
 obtain ⟨sb, mb, sc, wv, lg, lm, pl, R, h⟩ := h;have HM := Lh (Qh h.disk P.ll h.ok.fit);have HE := Lh (show P.most = (P.N - 2 - P.ll) / 8 from rfl);have ho : Own w p 150 #[.pointer (some ⟨d, 0, none⟩), .int .i64 (P.ll : Int), .int .u64 (P.seq : Int), .pointer (some ⟨lg, 0, none⟩), .map (some lm), .int .i64 (P.room : Int), .pointer (some ⟨pl, 0, none⟩), .bool P.failed] := h.own;obtain ⟨q1, q2, q3⟩ := ho.at_;unfold uM at HM;rw [HE.out];clear h ho;go_enter Tryz.func65, Tryz.ntmps65;go_wp2_with (go_at_call 80; refine HM.out.mono ?_; rintro e w2 ⟨rfl, hb2⟩)
 go_ret;exact ⟨rfl, hb2⟩
set_option maxRecDepth 10000 in
theorem mD (h : zF w B Bp d p c P) (hd : P.s.down = false) (hc : c + 2 < 1000000) : Calls Tryz.prog 85 #[.pointer (some ⟨p, 0, none⟩)] w fun e w' => e = .returned (.tuple #[hV P.used P.free P.root, .int .i64 0]) /\ Ask w w' B Bp d p (c + 2) P := by
 have hok := h.ok;have hx := hok.hd.ok;have B0 := zG w 133 #[.int .i64 0, .int .i64 0, .int .u64 0, .int .u64 0, .int .u64 0, .int .u64 0, .int .u64 0, .int .u64 0, .int .u64 0, .int .u64 0];have O0 := Own.made w 133 #[.int .i64 0, .int .i64 0, .int .u64 0, .int .u64 0, .int .u64 0, .int .u64 0, .int .u64 0, .int .u64 0, .int .u64 0, .int .u64 0];have FD := mO (h.below B0) hd 0 (by have := hok.most; omega) hc;have HH := Lh (fun w => fT 0 (P.view 0).1 w hx.size);have e0 := hok.hd0;have EU := Lh (show hV P.used P.free P.root = hV (rdU (P.view 0).1.2) (rdF (P.view 0).1.2) (rdR (P.view 0).1.2) from rfl);unfold mY at FD;rw [e0, if_pos rfl] at FD;rw [EU.out];obtain ⟨x, hxx⟩ : ∃ x, x = (P.view 0).1 := ⟨_, rfl⟩
 rw [<- hxx] at FD HH ⊢;unfold shV at FD HH;obtain ⟨u, hu⟩ : ∃ u, u = rdU x.2 := ⟨_, rfl⟩
 obtain ⟨f, hf⟩ : ∃ f, f = rdF x.2 := ⟨_, rfl⟩
 obtain ⟨r, hr⟩ : ∃ r, r = rdR x.2 := ⟨_, rfl⟩
 rw [<- hu, <- hf, <- hr] at HH ⊢;unfold hV hC at HH ⊢;have FDh := Lh FD;have HB0 := Lh B0;have HO0 := Lh O0;clear h hok hx FD e0 EU hxx hu hf hr B0 O0;go_enter Tryz.func85, Tryz.ntmps85;go_wp2_with (first
   | (go_at_call 82; refine FDh.out.mono ?_; rintro e w2 ⟨rfl, hA2⟩; have A2 := Lh hA2; have O2 := Lh (yZ hA2.2 HO0.out (by decide) (by decide)); clear hA2)
   | (go_at_call 172; refine (HH.out _).mono ?_; rintro e w3 ⟨rfl, hb3⟩; have A3 := Lh ((A2.out.below (zG w2 131 #[.int .i64 0, .int .i64 (x.1 : Int), .string x.2])).below hb3); have O3 := Lh ((O2.out.more (.cells #[.int .i64 0, .int .i64 (x.1 : Int), .string x.2] 131)).keep hb3); clear hb3; obtain ⟨o1, o2, o3⟩ := O3.out.at_))
 refine bodyPost_ret (by simp [results, Tryz.results85, go_sem, *]) rfl ⟨rfl, ?_⟩;exact (Ask.from_ HB0.out A3.out).cells O3.out (by unfold PgT; decide) (by simp) (Nat.le_refl _) [.int .i64 (u : Int), .int .i64 (f : Int), .int .u64 (r 0 : Int), .int .u64 (r 1 : Int), .int .u64 (r 2 : Int), .int .u64 (r 3 : Int), .int .u64 (r 4 : Int), .int .u64 (r 5 : Int), .int .u64 (r 6 : Int), .int .u64 (r 7 : Int)] (by simp)
theorem Yz (h : zF w B Bp d p c P) (hd : P.s.down = true) : Calls Tryz.prog 43 #[.pointer (some ⟨p, 0, none⟩)] w fun e w' => e = .returned (.int .i64 0) /\ w = w' := by
 have HD := Lh (jB h);rw [hd] at HD;obtain ⟨lg, lm, pl, ho⟩ := h.cells;obtain ⟨q1, q2, q3⟩ := ho.at_;clear h hd ho;go_enter Tryz.func43, Tryz.ntmps43;go_wp2_with (go_at_call 76; refine HD.out.mono ?_; rintro e w2 ⟨rfl, rfl⟩)
 go_ret;exact ⟨rfl, rfl⟩
theorem Jy (h : zF w B Bp d p c P) (hd : P.s.down = false) (hc : c + 2 < 1000000) : Calls Tryz.prog 43 #[.pointer (some ⟨p, 0, none⟩)] w fun e w' => e = .returned (.int .i64 (P.used : Int)) /\ Ask w w' B Bp d p (c + 2) P := by
 have HD := Lh (jB h);rw [hd] at HD;have HH := mD h hd hc;unfold hV hC at HH;replace HH := Lh HH;obtain ⟨lg, lm, pl, ho⟩ := h.cells;obtain ⟨q1, q2, q3⟩ := ho.at_;clear h hd ho;go_enter Tryz.func43, Tryz.ntmps43;go_wp2_with (first
   | (go_at_call 76; refine HD.out.mono ?_; rintro e w2 ⟨rfl, rfl⟩)
   | (go_at_call 85; refine HH.out.mono ?_; rintro e w3 ⟨rfl, hA3⟩))
 go_ret;exact ⟨rfl, hA3.below (zG _ _ _)⟩
def PS.pages (P : PS) : Nat := if P.s.down then 0 else P.used
theorem zG2 (h : zF w B Bp d p c P) (hc : c + 2 < 1000000) : Calls Tryz.prog 43 #[.pointer (some ⟨p, 0, none⟩)] w fun e w' => e = .returned (.int .i64 (P.pages : Int)) /\ Ask w w' B Bp d p (c + 2) P := by
 unfold PS.pages;cases hd : P.s.down with
 | true =>
   refine (Yz h hd).mono ?_;rintro e w' ⟨rfl, rfl⟩;exact ⟨rfl, (Ask.same h).more (by omega)⟩
 | false => exact Jy h hd hc
end
end
section
def rdV (r : Pag × Nat) : Value := .tuple #[.int .i64 (if r.2 = 0 then r.1.1 else 0 : Nat), .string (if r.2 = 0 then r.1.2 else ⟨#[]⟩), .int .i64 (r.2 : Int)]
section
variable {w w' : World} {B Bp d p c : Nat} {P : PS}
set_option maxRecDepth 10000 in
theorem zMn (h : zF w B Bp d p c P) (hd : P.s.down = false) (no : Nat) (hn : no < P.used) (hc : c + 4 < 1000000) : Calls Tryz.prog 45 #[.pointer (some ⟨p, 0, none⟩), .int .i64 (no : Int)] w fun e w' => e = .returned (rdV (P.view no)) /\ Ask w w' B Bp d p (c + 4) P := by
 have hok := h.ok;have HD := Lh (jB h);rw [hd] at HD;have HP := Lh (Jy h hd (by omega));have FD : Hid (∀ w1, Ask w w1 B Bp d p (c + 2) P -> Calls Tryz.prog 82 #[.pointer (some ⟨p, 0, none⟩), .int .i64 (no : Int)] w1 fun e w' => e = .returned (mY no (P.view no)) /\ Ask w1 w' B Bp d p (c + 4) P) := Lh fun w1 h1 => mO h1.1 hd no (by have := hok.used; omega) (by omega)
 obtain ⟨lg, lm, pl, ho⟩ := h.cells;obtain ⟨q1, q2, q3⟩ := ho.at_;obtain ⟨r, hr⟩ : ∃ r, r = P.view no := ⟨_, rfl⟩
 rw [<- hr] at FD ⊢;unfold mY at FD;unfold rdV;clear h hd ho hok hr;by_cases c0 : r.2 = 0
 · rw [if_pos c0] at FD ⊢;rw [if_pos c0];unfold shV at FD;obtain ⟨⟨k, t⟩, E⟩ := r;simp only at c0 FD ⊢;subst c0;go_enter Tryz.func45, Tryz.ntmps45;go_upto_region 9 with (first
     | (go_at_call 76; refine HD.out.mono ?_; rintro e w2 ⟨rfl, rfl⟩)
     | (go_at_call 43; refine HP.out.mono ?_; rintro e w3 ⟨rfl, hA⟩; have A3 := Lh hA; clear hA)
     | (go_at_call 82; refine (FD.out _ A3.out).mono ?_; rintro e w4 ⟨rfl, hA⟩; have A4 := Lh (A3.out.then_ hA); clear hA))
   have O5 := (Own.made w4 131 #[.int .i64 (no : Int), .int .i64 (k : Int), .string t])
   have A5 := Lh (A4.out.below (zG w4 131 #[.int .i64 (no : Int), .int .i64 (k : Int), .string t]));refine zA (fun W => Own W w4.heap.size 131 #[.int .i64 (no : Int), .int .i64 (k : Int), .string t]) (0 :: 1 :: 2 :: 3 :: 4 :: 5 :: 6 :: 7 :: []) (1 :: 3 :: []) (0 :: 1 :: 2 :: 3 :: 4 :: 5 :: 6 :: 7 :: []) (by kernel_rfl) (by kernel_rfl) rfl (by kernel_rfl) rfl (O5.drawn) (by simp only [zU, List.filterMap_cons, List.filterMap_nil, List.getElem?_cons_zero, List.getElem?_cons_succ, Option.map_some]; exact rfl) ?_;iterate 8
     refine zC (v := ?_) rfl rfl (fun W hS => ?_) ?_;rotate_left
     · first
         | (conv => lhs; simp [go_sem]
            first | done | exact rfl)
         | (have hS := hS rfl
            obtain ⟨q1, q2, q3⟩ := Own.at_ hS;conv => lhs; simp [go_sem, *]
            first | done | exact rfl)
     simp only [Act.put, lA, lZ, lS]
   refine zR ?_;go_wp2;go_ret3;exact ⟨rfl, A5.out.below ((Below.refl _ _).drew)⟩
 · rw [if_neg c0] at FD ⊢;rw [if_neg c0];unfold fR at FD;clear c0;obtain ⟨⟨k, t⟩, E⟩ := r;simp only at FD ⊢;go_enter Tryz.func45, Tryz.ntmps45;go_upto_region 9 with (first
     | (go_at_call 76; refine HD.out.mono ?_; rintro e w2 ⟨rfl, rfl⟩)
     | (go_at_call 43; refine HP.out.mono ?_; rintro e w3 ⟨rfl, hA⟩; have A3 := Lh hA; clear hA)
     | (go_at_call 82; refine (FD.out _ A3.out).mono ?_; rintro e w4 ⟨rfl, hA⟩; have A4 := Lh (A3.out.then_ hA); clear hA))
   have O5 := (Own.made w4 131 #[.int .i64 0, .int .i64 0, .string ⟨#[]⟩])
   have A5 := Lh (A4.out.below (zG w4 131 #[.int .i64 0, .int .i64 0, .string ⟨#[]⟩]));refine zA (fun W => Own W w4.heap.size 131 #[.int .i64 0, .int .i64 0, .string ⟨#[]⟩]) (0 :: 1 :: 2 :: 3 :: 4 :: 5 :: 6 :: 7 :: []) (1 :: 3 :: []) (0 :: 1 :: 2 :: 3 :: 4 :: 5 :: 6 :: 7 :: []) (by kernel_rfl) (by kernel_rfl) rfl (by kernel_rfl) rfl (O5.drawn) (by simp only [zU, List.filterMap_cons, List.filterMap_nil, List.getElem?_cons_zero, List.getElem?_cons_succ, Option.map_some]; exact rfl) ?_;iterate 8
     refine zC (v := ?_) rfl rfl (fun W hS => ?_) ?_;rotate_left
     · first
         | (conv => lhs; simp [go_sem]
            first | done | exact rfl)
         | (have hS := hS rfl
            obtain ⟨q1, q2, q3⟩ := Own.at_ hS;conv => lhs; simp [go_sem, *]
            first | done | exact rfl)
     simp only [Act.put, lA, lZ, lS]
   refine zR ?_;go_wp2;go_ret3;exact ⟨rfl, A5.out.below ((Below.refl _ _).drew)⟩
end
end
section
def zH : Value := .agg #[.int .i64 0, .int .i64 0, .int .u64 0, .int .u64 0, .int .u64 0, .int .u64 0, .int .u64 0, .int .u64 0, .int .u64 0, .int .u64 0]
section
variable {w w' : World} {B Bp d p c : Nat} {P : PS}
theorem zE3 (p : Nat) (i : Int) (hi : i < 0 \/ 8 <= i) (w : World) : Calls Tryz.prog 90 #[.pointer (some ⟨p, 0, none⟩), .int .i64 i] w fun e w' => e = .returned (.tuple #[zH, .int .i64 1]) /\ Below w.heap.size w w' := by
 have O0 := Own.made w 133 #[.int .i64 0, .int .i64 0, .int .u64 0, .int .u64 0, .int .u64 0, .int .u64 0, .int .u64 0, .int .u64 0, .int .u64 0, .int .u64 0];obtain ⟨o1, o2, o3⟩ := O0.at_;unfold zH;rcases hi with hi | hi
 · go_enter Tryz.func90, Tryz.ntmps90;go_wp2;refine bodyPost_ret (by simp [results, Tryz.results90, go_sem, *]) rfl ⟨rfl, ?_⟩;repeat' (first | (with_reducible exact Below.refl _ _) | (with_reducible assumption) | (with_reducible refine zM ?_ _) | (with_reducible refine Below.drew ?_) | (with_reducible refine Below.alloc ?_ ?_ _) | (with_reducible refine Below.setCell ?_ ?_ _) | (with_reducible refine then_ ?_ (by with_reducible assumption) ?_) | (with_reducible exact Nat.le_refl _) | (with_reducible exact Nat.le_succ _) | (with_reducible exact Nat.le_succ_of_le (by with_reducible assumption)) | omega | (simp; done) | (simp; omega) | (exact Nat.le_succ _) | (exact Nat.le_succ_of_le (by with_reducible assumption)))
 · have h0 : 0 <= i := by omega
   go_enter Tryz.func90, Tryz.ntmps90;go_wp2;refine bodyPost_ret (by simp [results, Tryz.results90, go_sem, *]) rfl ⟨rfl, ?_⟩;repeat' (first | (with_reducible exact Below.refl _ _) | (with_reducible assumption) | (with_reducible refine zM ?_ _) | (with_reducible refine Below.drew ?_) | (with_reducible refine Below.alloc ?_ ?_ _) | (with_reducible refine Below.setCell ?_ ?_ _) | (with_reducible refine then_ ?_ (by with_reducible assumption) ?_) | (with_reducible exact Nat.le_refl _) | (with_reducible exact Nat.le_succ _) | (with_reducible exact Nat.le_succ_of_le (by with_reducible assumption)) | omega | (simp; done) | (simp; omega) | (exact Nat.le_succ _) | (exact Nat.le_succ_of_le (by with_reducible assumption)))
theorem Vi (h : zF w B Bp d p c P) (hd : P.s.down = true) (i : Nat) (hi : i < 8) : Calls Tryz.prog 90 #[.pointer (some ⟨p, 0, none⟩), .int .i64 (i : Int)] w fun e w' => e = .returned (.tuple #[zH, .int .i64 11]) /\ Below w.heap.size w w' := by
 have O0 := Own.made w 133 #[.int .i64 0, .int .i64 0, .int .u64 0, .int .u64 0, .int .u64 0, .int .u64 0, .int .u64 0, .int .u64 0, .int .u64 0, .int .u64 0];have B0 := zG w 133 #[.int .i64 0, .int .i64 0, .int .u64 0, .int .u64 0, .int .u64 0, .int .u64 0, .int .u64 0, .int .u64 0, .int .u64 0, .int .u64 0];have HD := jB (h.below B0);rw [hd] at HD;replace HD := Lh HD;obtain ⟨o1, o2, o3⟩ := O0.at_;obtain ⟨lg, lm, pl, ho⟩ := (h.below B0).cells;obtain ⟨q1, q2, q3⟩ := ho.at_;clear h hd ho B0;unfold zH;go_enter Tryz.func90, Tryz.ntmps90;go_wp2_with (go_at_call 76; refine HD.out.mono ?_; rintro e w2 ⟨rfl, rfl⟩)
 refine bodyPost_ret (by simp [results, Tryz.results90, go_sem, *]) rfl ⟨rfl, ?_⟩;repeat' (first | (with_reducible exact Below.refl _ _) | (with_reducible assumption) | (with_reducible refine zM ?_ _) | (with_reducible refine Below.drew ?_) | (with_reducible refine Below.alloc ?_ ?_ _) | (with_reducible refine Below.setCell ?_ ?_ _) | (with_reducible refine then_ ?_ (by with_reducible assumption) ?_) | (with_reducible exact Nat.le_refl _) | (with_reducible exact Nat.le_succ _) | (with_reducible exact Nat.le_succ_of_le (by with_reducible assumption)) | omega | (simp; done) | (simp; omega) | (exact Nat.le_succ _) | (exact Nat.le_succ_of_le (by with_reducible assumption)))
set_option maxRecDepth 10000 in
theorem Zu (h : zF w B Bp d p c P) (hd : P.s.down = false) (i : Nat) (hi : i < 8) (hc : c + 2 < 1000000) : Calls Tryz.prog 90 #[.pointer (some ⟨p, 0, none⟩), .int .i64 (i : Int)] w fun e w' => e = .returned (.tuple #[hV P.used P.free P.root, .int .i64 0]) /\ Ask w w' B Bp d p (c + 2) P := by
 have O0 := Own.made w 133 #[.int .i64 0, .int .i64 0, .int .u64 0, .int .u64 0, .int .u64 0, .int .u64 0, .int .u64 0, .int .u64 0, .int .u64 0, .int .u64 0];have B0 := zG w 133 #[.int .i64 0, .int .i64 0, .int .u64 0, .int .u64 0, .int .u64 0, .int .u64 0, .int .u64 0, .int .u64 0, .int .u64 0, .int .u64 0];have HD := jB (h.below B0);rw [hd] at HD;replace HD := Lh HD;have HH := mD (h.below B0) hd hc;obtain ⟨u, hu⟩ : ∃ u, u = P.used := ⟨_, rfl⟩
 obtain ⟨f, hf⟩ : ∃ f, f = P.free := ⟨_, rfl⟩
 obtain ⟨r, hr⟩ : ∃ r, r = P.root := ⟨_, rfl⟩
 rw [<- hu, <- hf, <- hr] at HH ⊢;unfold hV hC at HH ⊢;replace HH := Lh HH;have HO0 := Lh O0;have HB0 := Lh B0;obtain ⟨o1, o2, o3⟩ := O0.at_;obtain ⟨lg, lm, pl, ho⟩ := (h.below B0).cells;obtain ⟨q1, q2, q3⟩ := ho.at_;clear h hd ho B0 O0 hu hf hr;go_enter Tryz.func90, Tryz.ntmps90;go_wp2_with (first
   | (go_at_call 76; refine HD.out.mono ?_; rintro e w2 ⟨rfl, rfl⟩)
   | (go_at_call 85; refine HH.out.mono ?_; rintro e w3 ⟨rfl, hA⟩; have A3 := Lh hA; have O3 := Lh (yZ hA.2 HO0.out (by decide) (by decide)); clear hA; obtain ⟨o1, o2, o3⟩ := O3.out.at_))
 refine bodyPost_ret (by simp [results, Tryz.results90, go_sem, *]) rfl ⟨rfl, ?_⟩;exact (Ask.from_ HB0.out A3.out).cells O3.out (by unfold PgT; decide) (by simp) (Nat.le_refl _) [.int .i64 (u : Int), .int .i64 (f : Int), .int .u64 (r 0 : Int), .int .u64 (r 1 : Int), .int .u64 (r 2 : Int), .int .u64 (r 3 : Int), .int .u64 (r 4 : Int), .int .u64 (r 5 : Int), .int .u64 (r 6 : Int), .int .u64 (r 7 : Int)] (by simp)
theorem zHt (h : zF w B Bp d p c P) (hd : P.s.down = true) (i : Nat) (hi : i < 8) : Calls Tryz.prog 46 #[.pointer (some ⟨p, 0, none⟩), .int .i64 (i : Int)] w fun e w' => e = .returned (.tuple #[.int .u64 0, .int .i64 11]) /\ Below w.heap.size w w' := by
 have HR := Lh (Vi h hd i hi);unfold zH at HR;clear h hd;go_enter Tryz.func46, Tryz.ntmps46;go_wp2_with (go_at_call 90; refine HR.out.mono ?_; rintro e w2 ⟨rfl, hb⟩)
 go_ret2;exact ⟨rfl, hb.alloc hb.size _⟩
set_option maxRecDepth 10000 in
theorem zM1 (h : zF w B Bp d p c P) (hd : P.s.down = false) (i : Nat) (hi : i < 8) (hc : c + 2 < 1000000) : Calls Tryz.prog 46 #[.pointer (some ⟨p, 0, none⟩), .int .i64 (i : Int)] w fun e w' => e = .returned (.tuple #[.int .u64 (P.root i : Int), .int .i64 0]) /\ Ask w w' B Bp d p (c + 2) P := by
 have HR := Zu h hd i hi hc;obtain ⟨u, hu⟩ : ∃ u, u = P.used := ⟨_, rfl⟩
 obtain ⟨f, hf⟩ : ∃ f, f = P.free := ⟨_, rfl⟩
 obtain ⟨r, hr⟩ : ∃ r, r = P.root := ⟨_, rfl⟩
 rw [<- hu, <- hf, <- hr] at HR;rw [<- hr];have HX : Hid (∀ w2 : World, (w2.alloc (.cells (hC u f r) 133)).cell? ⟨w2.heap.size, 2 + i, none⟩ = some (.int .u64 (r i : Int))) := Lh fun w2 => by
   rw [(Own.made w2 133 (hC u f r)).at_.1 (2 + i), zKy u f r hi]
 have HE := Lh (show hC u f r = #[.int .i64 (u : Int), .int .i64 (f : Int), .int .u64 (r 0 : Int), .int .u64 (r 1 : Int), .int .u64 (r 2 : Int), .int .u64 (r 3 : Int), .int .u64 (r 4 : Int), .int .u64 (r 5 : Int), .int .u64 (r 6 : Int), .int .u64 (r 7 : Int)] from rfl);unfold hV at HR;replace HR := Lh HR;rw [HE.out] at HR HX;clear h hd hu hf hr;go_enter Tryz.func46, Tryz.ntmps46;go_wp2_with (go_at_call 90; refine HR.out.mono ?_; rintro e w2 ⟨rfl, hA⟩; have A2 := Lh hA; clear hA; have hx := HX.out w2)
 go_ret2;exact ⟨rfl, A2.out.below (zG _ _ _)⟩
end
end
end Go.Proofs.YthijgebmoadgkaaGreatDoor
