import Derived.Test.YtndhmidgnpobjaaGreatDoorPguG
set_option linter.unusedVariables false
set_option linter.unusedSimpArgs false
namespace Go.Proofs.YtndhmidgnpobjaaGreatDoor
open Go.ChangeShapes Go.WideShapes Go.ChangeAt Go.RowKit
section
theorem gT (w : World) : (zeroValue 112).run Tryz.prog w = .ok fW w := by kernel_rfl
theorem zF1 {M : List (Nat × Pag)} {no : Nat} {x : Pag} (h : lk M no = some x) : ((no : Int), shV no x) ∈ M.map uP := List.mem_map.2 ⟨(no, x), uH h, rfl⟩
theorem zGy {M : List (Nat × Pag)} {no : Nat} (h : lk M no = none) : ∀ v, ((no : Int), v) ∉ M.map uP := fun v hv => by
 obtain ⟨p, hp, e⟩ := List.mem_map.1 hv;have e1 : ((p.1 : Nat) : Int) = (no : Int) := congrArg Prod.fst e;exact zBt h p hp (by omega)
def PgT (T : TypeId) : Prop := T ≠ 148 /\ T ≠ 232 /\ T ≠ 207 /\ T ≠ 131 /\ T ≠ 216 /\ T ≠ 229
section
variable {w w' : World} {B Bp d p c sb mb sc lg lm pl : Nat} {wv : Value} {R : List Po.RF} {P : PS}
theorem Pgr.keep (h : Pgr w B Bp d p c sb mb sc wv lg lm pl R P) {Z : Nat -> Prop} (hc : Chg Z w w') (hz : ∀ q, (q = lg \/ q = p \/ q = lm \/ fp d sb mb wv q \/ Po.PT w Bp q) -> ¬ Z q) : Pgr w' B Bp d p c sb mb sc wv lg lm pl R P :=
 { h with
   disk := h.disk.keep hc fun q hq => hz q (.inr (.inr (.inr (.inl hq))))
   log := hc.own h.log (hz lg (.inl rfl))
   own := hc.own h.own (hz p (.inr (.inl rfl)))
   map := h.map.keep (hc.block lm h.map.in_ (hz lm (.inr (.inr (.inl rfl)))))
   pool := h.pool.keep hc fun q hq => hz q (.inr (.inr (.inr (.inr hq)))) }
theorem Pgr.own_apart (h : Pgr w B Bp d p c sb mb sc wv lg lm pl R P) {q : Nat} {T : TypeId} {cs : Array Value} (ho : Own w q T cs) (hT : PgT T) (h0 : ∀ x, cs[0]? ≠ some (.int .u8 x)) : ¬ (q = lg \/ q = p \/ q = lm \/ fp d sb mb wv q \/ Po.PT w Bp q) := fun k => by
 rcases k with e | e | e | e | e
 · exact ho.type_ne (show Own w lg _ _ from h.log) hT.2.2.1 e
 · exact ho.type_ne h.own hT.2.2.2.1 e
 · exact h.map.ne ho e.symm
 · exact h.disk.no_own ho hT.1 hT.2.1 h0 e
 · obtain ⟨-, e⟩ := e;unfold Own at ho e;rw [ho] at e;rcases e with ⟨es, ck, e⟩ | ⟨cs', e⟩ | ⟨cs', e⟩
   · cases e
   · injection e with e; injection e with e1 e2; exact hT.2.2.2.2.1 e2
   · injection e with e; injection e with e1 e2; exact hT.2.2.2.2.2 e2
theorem Pgr.cell (h : Pgr w B Bp d p c sb mb sc wv lg lm pl R P) {q : Nat} {T : TypeId} {cs : Array Value} (ho : Own w q T cs) (hT : PgT T) (h0 : ∀ x, cs[0]? ≠ some (.int .u8 x)) (i : Nat) (v : Value) : Pgr (w.setCell ⟨q, i, none⟩ v) B Bp d p c sb mb sc wv lg lm pl R P :=
 h.keep (xF w q i v) fun z hz e => h.own_apart ho hT h0 (by rw [show z = q from e] at hz; exact hz)
end
def Je (no : Nat) (r : Pag × Nat) : Value := .tuple #[if r.2 = 0 then shV no r.1 else fW, .int .i64 (r.2 : Int)]
section
variable {w w' : World} {B Bp d p c sb mb sc lg lm pl : Nat} {wv : Value} {R : List Po.RF} {P : PS}
set_option maxRecDepth 10000 in
set_option maxHeartbeats 1000000 in
theorem zL0 (h : Pgr w B Bp d p c sb mb sc wv lg lm pl R P) (hd : P.s.down = false) (no : Nat) (hno : no < P.most) (hc : c + 2 < 1000000) :
   Calls Tryz.prog 73 #[.pointer (some ⟨p, 0, none⟩), .int .i64 (no : Int)] w fun e w' => e = .returned (Je no (P.view no)) /\ (∃ R', Pgr w' B Bp d p (c + 2) sb mb sc wv lg lm pl R' P) /\ Chg (Po.PT w Bp) w w' := by
 have hm := h.ok.most;have B0 := zF w 112 #[.int .i64 0, .int .i64 0, .string ⟨#[]⟩];have O0 := Own.made w 112 #[.int .i64 0, .int .i64 0, .string ⟨#[]⟩];have H0 := h.below B0;have GET := Po.get_any H0.pool (no : Int) (by omega);have PM := Up H0.pool.ok (no : Int);have PC : Hid (P.cells d lg lm pl = #[.pointer (some ⟨d, 0, none⟩), .int .i64 (P.ll : Int), .int .u64 (P.seq : Int), .pointer (some ⟨lg, 0, none⟩), .map (some lm), .int .i64 (P.room : Int), .pointer (some ⟨pl, 0, none⟩), .bool P.failed]) := Lh rfl;cases hl : Po.look R (no : Int) with
 | some f =>
   obtain ⟨x, hx, hs, hv⟩ := h.coh.look hl;have EG : Po.getR R (no : Int) = ((f.s, true), (Po.getR R (no : Int)).2) := by unfold Po.getR; rw [hl]
   rw [EG, hs] at GET;have CR := h.coh.perm PM;obtain ⟨R', hR'⟩ : ∃ R', R' = (Po.getR R (no : Int)).2 := ⟨_, rfl⟩
   rw [<- hR'] at GET CR;have FR := Lh (fun w => uM no x w hx);rw [hv];unfold Je;rw [if_pos rfl];obtain ⟨F, hF⟩ : ∃ F, F = fr x := ⟨_, rfl⟩
   rw [<- hF] at GET FR;obtain ⟨q1, q2, q3⟩ := H0.own.at_;rw [PC.out] at q1;have GETh := Lh GET;have HH := Lh H0;have HB0 := Lh B0;have HO0 := Lh O0;have HCR := Lh CR;unfold shV at FR ⊢;clear h GET PM H0 B0 O0 CR hs hv EG hR' hF hx hl hm;go_enter Tryz.func73, Tryz.ntmps73;go_wp2_with (first
     | (go_at_call 139; refine GETh.out.mono ?_; rintro e w1 ⟨rfl, hp1, hc1⟩; have K1 := Lh (HH.out.pooled hc1 hp1 HCR.out); have O1 := Lh (yX hc1 HO0.out (by decide) (by decide)); have C1 := Lh (yV (Chg.of HB0.out) hc1); clear hp1 hc1)
     | (go_at_call 140; refine (FR.out _).mono ?_; rintro e w2 ⟨rfl, hb2⟩; have K2 := Lh (K1.out.below hb2); have O2 := Lh (O1.out.keep hb2); have C2 := Lh (xC C1.out hb2); clear hb2; obtain ⟨o1, o2, o3⟩ := O2.out.at_))
   refine bodyPost_ret (by simp [results, Tryz.results73, go_sem, *]) rfl ⟨rfl, ⟨R', ?_⟩, ?_⟩
   · have kk := K2.out.more (show c + 1 <= c + 2 by omega);have oo := O2.out;have k0 := kk.cell oo (by unfold PgT; decide) (by simp) 0 (.int .i64 (no : Int));have o1 := oo.put 0 (.int .i64 (no : Int));have k1 := k0.cell o1 (by unfold PgT; decide) (by simp) 1 (.int .i64 (x.1 : Int));have o2 := o1.put 1 (.int .i64 (x.1 : Int));exact k1.cell o2 (by unfold PgT; decide) (by simp) 2 (.string x.2)
   · exact ((C2.out.set ⟨_, 0, none⟩ (.inr (Nat.le_refl _)) _).set ⟨_, 1, none⟩ (.inr (Nat.le_refl _)) _).set ⟨_, 2, none⟩ (.inr (Nat.le_refl _)) _
 | none =>
   have hT := h.coh.miss hl;have hv : P.view no = P.base no := by unfold PS.view; rw [hT]
   have EG : Po.getR R (no : Int) = ((⟨#[]⟩, false), R) := by unfold Po.getR; rw [hl]
   rw [EG] at GET;simp only at GET;rw [hv];have GETh := Lh GET;have HH := Lh H0;have HB0 := Lh B0;have HO0 := Lh O0;have HCR := Lh h.coh;have HNO := Lh hno;have HT := Lh hT;have HD := Lh hd;obtain ⟨q1, q2, q3⟩ := H0.own.at_;rw [PC.out] at q1;have hfit : 2 + P.ll + no * 8 + 8 <= P.N := by omega
   have h8 : no <= 8191 := by omega
   clear GET PM H0 B0 O0 hv EG hl hm hT;cases hM : lk P.M no with
   | some x =>
     have hb : P.base no = (x, 0) := by unfold PS.base; rw [hM]
     have hx : vE x := (h.ok.M.2 _ (uH hM)).2;rw [hb];unfold Je;rw [if_pos rfl];have LK : Hid (∀ w1, Pgr w1 B Bp d p (c + 1) sb mb sc wv lg lm pl R P -> (Instr.lookup 124 (.map (some lm)) (.int .i64 (no : Int)) true).run Tryz.prog w1 = .ok (.tuple #[shV no x, .bool true]) w1) := Lh fun w1 h1 => h1.map.look2 Tryz.underlying124 Tryz.underlying3 (gT w1) (zF1 hM)
     have FRM := Lh (fun w => gR no x.1 x.2 w hx.hi (by rw [hx.size]; omega));have FR := Lh (fun w => uM no x w hx);have CP := Lh (fun n => Coh.put HCR.out (n := n) hno hx HT.out hb);have efr : fr (x.1, fl x.2) = fr x := by rw [jC _ hx.size]
     rw [efr] at FRM;have hfz := gS hx.size;obtain ⟨F, hF⟩ : ∃ F, F = fr x := ⟨_, rfl⟩
     rw [<- hF] at FRM FR CP hfz;have PUT : Hid (∀ w1, Pgr w1 B Bp d p (c + 1) sb mb sc wv lg lm pl R P -> Calls Tryz.prog 143 #[.pointer (some ⟨pl, 0, none⟩), .int .i64 (no : Int), .string F] w1 fun e w' => (∃ q : Int, e = .returned (.int .i64 q)) /\ Pgr w' B Bp d p (c + 2) sb mb sc wv lg lm pl (Po.putR R P.room (no : Int) F).2 P /\ Chg (Po.PT w1 Bp) w1 w') := Lh fun w1 h1 => by
       refine (Po.put_any h1.pool (no : Int) F (by omega) (by omega)).mono ?_;rintro e w2 ⟨rfl, hp2, hc2⟩;exact ⟨⟨_, rfl⟩, h1.pooled hc2 hp2 (CP.out _), hc2⟩
     unfold shV at LK FR ⊢;clear h hb hx hM efr hF hno hd hfit CP hfz;go_enter Tryz.func73, Tryz.ntmps73;go_wp2_with (first
       | (go_at_call 139; refine GETh.out.mono ?_; rintro e w1 ⟨rfl, hp1, hc1⟩; have K1 := Lh (HH.out.pooled hc1 hp1 HCR.out); have O1 := Lh (yX hc1 HO0.out (by decide) (by decide)); have C1 := Lh (yV (Chg.of HB0.out) hc1); clear hp1 hc1; obtain ⟨q1, q2, q3⟩ := K1.out.own.at_; rw [PC.out] at q1; have LKU := LK.out w1 K1.out)
       | (go_at_call 142; refine (FRM.out _).mono ?_; rintro e w3 ⟨rfl, hb3⟩; have K3 := Lh ((K1.out.below (zF w1 112 _)).below hb3); have O3 := Lh ((O1.out.more _).keep hb3); have C3 := Lh (xC C1.out (then_ (zF w1 _ _) hb3 (by simp))); clear hb3; obtain ⟨q1, q2, q3⟩ := K3.out.own.at_; rw [PC.out] at q1)
       | (go_at_call 143; refine (PUT.out _ K3.out).mono ?_; rintro e w4 ⟨⟨q, rfl⟩, k4, hc4⟩; have K4 := Lh k4; have O4 := Lh (yX hc4 O3.out (by decide) (by decide)); have C4 := Lh (yV C3.out hc4); clear k4 hc4)
       | (go_at_call 140; refine (FR.out _).mono ?_; rintro e w5 ⟨rfl, hb5⟩; have K5 := Lh (K4.out.below hb5); have O5 := Lh (O4.out.keep hb5); have C5 := Lh (xC C4.out hb5); clear hb5; obtain ⟨o1, o2, o3⟩ := O5.out.at_))
     refine bodyPost_ret (by simp [results, Tryz.results73, go_sem, *]) rfl ⟨rfl, ⟨(Po.putR R P.room (no : Int) F).2, ?_⟩, ?_⟩
     · have kk := K5.out.more (show c + 2 <= c + 2 by omega);have oo := O5.out;have k0 := kk.cell oo (by unfold PgT; decide) (by simp) 0 (.int .i64 (no : Int));have o1 := oo.put 0 (.int .i64 (no : Int));have k1 := k0.cell o1 (by unfold PgT; decide) (by simp) 1 (.int .i64 (x.1 : Int));have o2 := o1.put 1 (.int .i64 (x.1 : Int));exact k1.cell o2 (by unfold PgT; decide) (by simp) 2 (.string x.2)
     · exact ((C5.out.set ⟨_, 0, none⟩ (.inr (Nat.le_refl _)) _).set ⟨_, 1, none⟩ (.inr (Nat.le_refl _)) _).set ⟨_, 2, none⟩ (.inr (Nat.le_refl _)) _
   | none =>
     have hb : P.base no = dpg P.s P.ll no := by unfold PS.base; rw [hM]
     rw [hb];have hz := zCz h.disk.ok (2 + P.ll + no * 8) (by omega);have LK : Hid (∀ w1, Pgr w1 B Bp d p (c + 1) sb mb sc wv lg lm pl R P -> (Instr.lookup 124 (.map (some lm)) (.int .i64 (no : Int)) true).run Tryz.prog w1 = .ok (.tuple #[fW, .bool false]) w1) := Lh fun w1 h1 => h1.map.miss2 Tryz.underlying124 Tryz.underlying3 (gT w1) (zGy hM)
     have RD : Hid (∀ w1, Pgr w1 B Bp d p (c + 1) sb mb sc wv lg lm pl R P -> Calls Tryz.prog 141 #[uW d P.ll, .int .i64 (no : Int)] w1 fun e w' => e = .returned (.tuple #[.string (dby P.s (2 + P.ll + no * 8)), .int .i64 0]) /\ Below w1.heap.size w1 w') := Lh fun w1 h1 => zAg h1.disk hd P.ll no hfit
     have SO := Lh (fun w => fY no (dby P.s (2 + P.ll + no * 8)) w (by omega));have HBS := Lh hb;unfold dpg at hb ⊢;obtain ⟨b, hbb⟩ : ∃ b, b = dby P.s (2 + P.ll + no * 8) := ⟨_, rfl⟩
     rw [<- hbb] at RD SO hb ⊢;unfold uW at RD;unfold Je;simp only;by_cases hE : Pg.uE b no = 0
     · have hpk : vE (Pg.uK b no, Pg.uT b no) := by
         have := zAy h.ok (no := no) (by unfold PS.view; rw [HT.out, hb]; exact hE);unfold PS.view at this;rw [HT.out, hb] at this;exact this
       have hb2 : P.base no = ((Pg.uK b no, Pg.uT b no), 0) := by rw [hb, hE]
       obtain ⟨x, hx⟩ : ∃ x : Pag, x = (Pg.uK b no, Pg.uT b no) := ⟨_, rfl⟩
       rw [hE] at SO ⊢;rw [if_pos rfl] at SO ⊢;rw [<- hx] at SO hpk hb2 ⊢;have FRM := Lh (fun w => gR no x.1 x.2 w hpk.hi (by rw [hpk.size]; omega));have FR := Lh (fun w => uM no x w hpk);have CP := Lh (fun n => Coh.put HCR.out (n := n) hno hpk HT.out hb2);have efr : fr (x.1, fl x.2) = fr x := by rw [jC _ hpk.size]
       rw [efr] at FRM;have hfz := gS hpk.size;obtain ⟨F, hF⟩ : ∃ F, F = fr x := ⟨_, rfl⟩
       rw [<- hF] at FRM FR CP hfz;have PUT : Hid (∀ w1, Pgr w1 B Bp d p (c + 1) sb mb sc wv lg lm pl R P -> Calls Tryz.prog 143 #[.pointer (some ⟨pl, 0, none⟩), .int .i64 (no : Int), .string F] w1 fun e w' => (∃ q : Int, e = .returned (.int .i64 q)) /\ Pgr w' B Bp d p (c + 2) sb mb sc wv lg lm pl (Po.putR R P.room (no : Int) F).2 P /\ Chg (Po.PT w1 Bp) w1 w') := Lh fun w1 h1 => by
         refine (Po.put_any h1.pool (no : Int) F (by omega) (by omega)).mono ?_;rintro e w2 ⟨rfl, hp2, hc2⟩;exact ⟨⟨_, rfl⟩, h1.pooled hc2 hp2 (CP.out _), hc2⟩
       unfold shV at SO FR ⊢;unfold fW at LK;clear h hb hx hM efr hF hno hd hfit CP hfz hz hbb hE hpk hb2;go_enter Tryz.func73, Tryz.ntmps73;go_upto_region 12 with (first
         | (go_at_call 139; refine GETh.out.mono ?_; rintro e w1 ⟨rfl, hp1, hc1⟩; have K1 := Lh (HH.out.pooled hc1 hp1 HCR.out); have O1 := Lh (yX hc1 HO0.out (by decide) (by decide)); have C1 := Lh (yV (Chg.of HB0.out) hc1); clear hp1 hc1; obtain ⟨q1, q2, q3⟩ := K1.out.own.at_; rw [PC.out] at q1; have LKU := LK.out w1 K1.out)
         | (go_at_call 141; refine (RD.out _ (K1.out.below (zF w1 112 #[.int .i64 0, .int .i64 0, .string ⟨#[]⟩]))).mono ?_; rintro e w2 ⟨rfl, hb2⟩; have K2 := Lh ((K1.out.below (zF w1 112 #[.int .i64 0, .int .i64 0, .string ⟨#[]⟩])).below hb2); have O2 := Lh ((O1.out.more (.cells #[.int .i64 0, .int .i64 0, .string ⟨#[]⟩] 112)).keep hb2); have Q2 := Lh ((Own.made w1 112 #[.int .i64 0, .int .i64 0, .string ⟨#[]⟩]).keep hb2); have C2 := Lh (xC C1.out (then_ (zF w1 112 #[.int .i64 0, .int .i64 0, .string ⟨#[]⟩]) hb2 (by simp))); have Z1 := Lh C1.out.size; clear hb2)
         | (go_at_call 138; refine (SO.out _).mono ?_; rintro e w3 ⟨rfl, hb3⟩; have K3 := Lh (K2.out.below hb3); have O3 := Lh (O2.out.keep hb3); have Q3 := Lh (Q2.out.keep hb3); have C3 := Lh (xC C2.out hb3); clear hb3; obtain ⟨o1, o2, o3⟩ := O3.out.at_; obtain ⟨p1, p2, p3⟩ := Q3.out.at_))
       have z1 : w.heap.size < w1.heap.size := (O1.out).in_;have QQ : Own (((w3.setCell ⟨w1.heap.size, 0, none⟩ (.int .i64 (no : Int))).setCell ⟨w1.heap.size, 1, none⟩ (.int .i64 (x.1 : Int))).setCell ⟨w1.heap.size, 2, none⟩ (.string x.2)) w1.heap.size 112 #[.int .i64 (no : Int), .int .i64 (x.1 : Int), .string x.2] := ((Q3.out.put 0 _).put 1 _).put 2 _;have OO : Own (((w3.setCell ⟨w1.heap.size, 0, none⟩ (.int .i64 (no : Int))).setCell ⟨w1.heap.size, 1, none⟩ (.int .i64 (x.1 : Int))).setCell ⟨w1.heap.size, 2, none⟩ (.string x.2)) w.heap.size 112 #[.int .i64 0, .int .i64 0, .string ⟨#[]⟩] := ((O3.out.apart (by omega) _ _).apart (by omega) _ _).apart (by omega) _ _;have KK : Pgr (((w3.setCell ⟨w1.heap.size, 0, none⟩ (.int .i64 (no : Int))).setCell ⟨w1.heap.size, 1, none⟩ (.int .i64 (x.1 : Int))).setCell ⟨w1.heap.size, 2, none⟩ (.string x.2)) B Bp d p (c + 1) sb mb sc wv lg lm pl R P := by
         have k0 := K3.out.cell Q3.out (by unfold PgT; decide) (by simp) 0 (.int .i64 (no : Int));have q0 := Q3.out.put 0 (.int .i64 (no : Int));have k1 := k0.cell q0 (by unfold PgT; decide) (by simp) 1 (.int .i64 (x.1 : Int));have q1 := q0.put 1 (.int .i64 (x.1 : Int));exact k1.cell q1 (by unfold PgT; decide) (by simp) 2 (.string x.2)
       have CC : Chg (Po.PT w Bp) w (((w3.setCell ⟨w1.heap.size, 0, none⟩ (.int .i64 (no : Int))).setCell ⟨w1.heap.size, 1, none⟩ (.int .i64 (x.1 : Int))).setCell ⟨w1.heap.size, 2, none⟩ (.string x.2)) := ((C3.out.set ⟨_, 0, none⟩ (.inr (Nat.le_of_lt z1)) _).set ⟨_, 1, none⟩ (.inr (Nat.le_of_lt z1)) _).set ⟨_, 2, none⟩ (.inr (Nat.le_of_lt z1)) _;go_name_world W4 hW4;rw [hW4] at QQ OO KK CC;clear hW4 O1 O2 O3 Q2 Q3 K1 K2 K3 C1 C2 C3 o1 o2 o3 p1 p2 p3 LKU;obtain ⟨p1, p2, p3⟩ := QQ.at_;obtain ⟨q1, q2, q3⟩ := KK.own.at_;rw [PC.out] at q1;replace QQ := Lh QQ;replace OO := Lh OO;replace KK := Lh KK;replace CC := Lh CC;go_wp2_with (first
         | (go_at_call 142; refine (FRM.out _).mono ?_; rintro e w5 ⟨rfl, hb5⟩; have K5 := Lh (KK.out.below hb5); have O5 := Lh (OO.out.keep hb5); have C5 := Lh (xC CC.out hb5); clear hb5; obtain ⟨q1, q2, q3⟩ := K5.out.own.at_; rw [PC.out] at q1)
         | (go_at_call 143; refine (PUT.out _ K5.out).mono ?_; rintro e w6 ⟨⟨q, rfl⟩, k6, hc6⟩; have K6 := Lh k6; have O6 := Lh (yX hc6 O5.out (by decide) (by decide)); have C6 := Lh (yV C5.out hc6); clear k6 hc6)
         | (go_at_call 140; refine (FR.out _).mono ?_; rintro e w7 ⟨rfl, hb7⟩; have K7 := Lh (K6.out.below hb7); have O7 := Lh (O6.out.keep hb7); have C7 := Lh (xC C6.out hb7); clear hb7; obtain ⟨o1, o2, o3⟩ := O7.out.at_))
       refine bodyPost_ret (by simp [results, Tryz.results73, go_sem, *]) rfl ⟨rfl, ⟨(Po.putR R P.room (no : Int) F).2, ?_⟩, ?_⟩
       · have kk := K7.out;have oo := O7.out;have k0 := kk.cell oo (by unfold PgT; decide) (by simp) 0 (.int .i64 (no : Int));have o1 := oo.put 0 (.int .i64 (no : Int));have k1 := k0.cell o1 (by unfold PgT; decide) (by simp) 1 (.int .i64 (x.1 : Int));have o2 := o1.put 1 (.int .i64 (x.1 : Int));exact k1.cell o2 (by unfold PgT; decide) (by simp) 2 (.string x.2)
       · exact ((C7.out.set ⟨_, 0, none⟩ (.inr (Nat.le_refl _)) _).set ⟨_, 1, none⟩ (.inr (Nat.le_refl _)) _).set ⟨_, 2, none⟩ (.inr (Nat.le_refl _)) _
     · rw [if_neg hE];rw [if_neg hE] at SO;obtain ⟨E, hEE⟩ : ∃ E, E = Pg.uE b no := ⟨_, rfl⟩
       rw [<- hEE] at SO hE ⊢;have tE : ((E : Int) != 0) = true := by rw [bne_iff_ne]; omega
       unfold fW at LK SO ⊢;clear h hb hM hno hd hfit hz hbb hE hEE;go_enter Tryz.func73, Tryz.ntmps73;go_wp2_with (first
         | (go_at_call 139; refine GETh.out.mono ?_; rintro e w1 ⟨rfl, hp1, hc1⟩; have K1 := Lh (HH.out.pooled hc1 hp1 HCR.out); have O1 := Lh (yX hc1 HO0.out (by decide) (by decide)); have C1 := Lh (yV (Chg.of HB0.out) hc1); clear hp1 hc1; obtain ⟨q1, q2, q3⟩ := K1.out.own.at_; rw [PC.out] at q1; have LKU := LK.out w1 K1.out)
         | (go_at_call 141; refine (RD.out _ (K1.out.below (zF w1 112 #[.int .i64 0, .int .i64 0, .string ⟨#[]⟩]))).mono ?_; rintro e w2 ⟨rfl, hb2⟩; have K2 := Lh ((K1.out.below (zF w1 112 #[.int .i64 0, .int .i64 0, .string ⟨#[]⟩])).below hb2); have O2 := Lh ((O1.out.more (.cells #[.int .i64 0, .int .i64 0, .string ⟨#[]⟩] 112)).keep hb2); have Q2 := Lh ((Own.made w1 112 #[.int .i64 0, .int .i64 0, .string ⟨#[]⟩]).keep hb2); have C2 := Lh (xC C1.out (then_ (zF w1 112 #[.int .i64 0, .int .i64 0, .string ⟨#[]⟩]) hb2 (by simp))); have zn : w.heap.size ≠ w1.heap.size := Nat.ne_of_lt O1.out.in_; have zm : w1.heap.size ≠ w.heap.size := Nat.ne_of_gt O1.out.in_; clear hb2)
         | (go_at_call 138; refine (SO.out _).mono ?_; rintro e w3 ⟨rfl, hb3⟩; have K3 := Lh (K2.out.below hb3); have O3 := Lh (O2.out.keep hb3); have Q3 := Lh (Q2.out.keep hb3); have C3 := Lh (xC C2.out hb3); clear hb3; obtain ⟨o1, o2, o3⟩ := O3.out.at_; obtain ⟨p1, p2, p3⟩ := Q3.out.at_))
       have z1 : w.heap.size < w1.heap.size := (O1.out).in_;refine bodyPost_ret (by simp [results, Tryz.results73, go_sem, *]) rfl ⟨rfl, ⟨R, ?_⟩, ?_⟩
       · have kk := K3.out.more (show c + 1 <= c + 2 by omega);have a0 := Q3.out;have k0 := kk.cell a0 (by unfold PgT; decide) (by simp) 0 (.int .i64 0);have a1 := a0.put 0 (.int .i64 0);have k1 := k0.cell a1 (by unfold PgT; decide) (by simp) 1 (.int .i64 0);have a2 := a1.put 1 (.int .i64 0);have k2 := k1.cell a2 (by unfold PgT; decide) (by simp) 2 (.string ⟨#[]⟩);have b0 := ((O3.out.apart zn 0 (.int .i64 0)).apart zn 1 (.int .i64 0)).apart zn 2 (.string ⟨#[]⟩);have k3 := k2.cell b0 (by unfold PgT; decide) (by simp) 0 (.int .i64 0);have b1 := b0.put 0 (.int .i64 0);have k4 := k3.cell b1 (by unfold PgT; decide) (by simp) 1 (.int .i64 0);have b2 := b1.put 1 (.int .i64 0);exact k4.cell b2 (by unfold PgT; decide) (by simp) 2 (.string ⟨#[]⟩)
       · exact (((((C3.out.set ⟨w1.heap.size, 0, none⟩ (.inr (Nat.le_of_lt z1)) _).set ⟨w1.heap.size, 1, none⟩ (.inr (Nat.le_of_lt z1)) _).set ⟨w1.heap.size, 2, none⟩ (.inr (Nat.le_of_lt z1)) _).set ⟨_, 0, none⟩ (.inr (Nat.le_refl _)) _).set ⟨_, 1, none⟩ (.inr (Nat.le_refl _)) _).set ⟨_, 2, none⟩ (.inr (Nat.le_refl _)) _
end
end
section
def PS.used (P : PS) : Nat := rdU (P.view 0).1.2
def PS.free (P : PS) : Nat := rdF (P.view 0).1.2
def PS.root (P : PS) : Nat -> Nat := rdR (P.view 0).1.2
theorem PS.Ok.used {P : PS} (h : P.Ok) : 1 <= P.used /\ P.used <= P.most /\ P.free < P.used := ⟨h.hd.lo, h.hd.hi, h.hd.free⟩
section
variable {w w' : World} {B Bp d p c : Nat} {P : PS}
def Ask (w w' : World) (B Bp d p c : Nat) (P : PS) : Prop := zG w' B Bp d p c P /\ Chg (Po.PT w Bp) w w'
theorem Ask.same (h : zG w B Bp d p c P) : Ask w w B Bp d p c P := ⟨h, Chg.refl _ _⟩
theorem Ask.then_ {w2 : World} {c2 : Nat} (h : Ask w w' B Bp d p c P) (k : Ask w' w2 B Bp d p c2 P) : Ask w w2 B Bp d p c2 P := ⟨k.1, yV h.2 k.2⟩
theorem Ask.below {w2 : World} (h : Ask w w' B Bp d p c P) (hb : Below w'.heap.size w' w2) : Ask w w2 B Bp d p c P := ⟨h.1.below hb, xC h.2 hb⟩
theorem Ask.from_ {w1 : World} (hb : Below w.heap.size w w1) (h : Ask w1 w' B Bp d p c P) : Ask w w' B Bp d p c P := ⟨h.1, yV (Chg.of hb) h.2⟩
theorem Ask.more (h : Ask w w' B Bp d p c P) {c' : Nat} (hc : c <= c') : Ask w w' B Bp d p c' P := ⟨h.1.more hc, h.2⟩
theorem zG.cells (h : zG w B Bp d p c P) : ∃ lg lm pl, Own w p 131 #[.pointer (some ⟨d, 0, none⟩), .int .i64 (P.ll : Int), .int .u64 (P.seq : Int), .pointer (some ⟨lg, 0, none⟩), .map (some lm), .int .i64 (P.room : Int), .pointer (some ⟨pl, 0, none⟩), .bool P.failed] := by
 obtain ⟨sb, mb, sc, wv, lg, lm, pl, R, h⟩ := h;exact ⟨lg, lm, pl, h.own⟩
theorem zG.cell (h : zG w B Bp d p c P) {q : Nat} {T : TypeId} {cs : Array Value} (ho : Own w q T cs) (hT : PgT T) (h0 : ∀ x, cs[0]? ≠ some (.int .u8 x)) (i : Nat) (v : Value) : zG (w.setCell ⟨q, i, none⟩ v) B Bp d p c P := by
 obtain ⟨sb, mb, sc, wv, lg, lm, pl, R, h⟩ := h;exact ⟨sb, mb, sc, wv, lg, lm, pl, R, h.cell ho hT h0 i v⟩
theorem Vp {q : Nat} {T : TypeId} (hT : PgT T) : ∀ (vs : List Value) (i : Nat) (w : World) (cs : Array Value), zG w B Bp d p c P -> Own w q T cs -> (∀ x, cs[0]? ≠ some (.int .u8 x)) -> (∀ v ∈ vs, ∀ x, v ≠ .int .u8 x) -> zG (w.setCells q i vs) B Bp d p c P
 | [], _, _, _, h, _, _, _ => h
 | v :: vs, i, w, cs, h, ho, h0, h1 => by
   refine Vp hT vs (i + 1) _ _ (h.cell ho hT h0 i v) (ho.put i v) (fun x => ?_) (fun u hu => h1 u (by simp [hu]));rw [Array.getElem?_setIfInBounds];split
   · split
     · intro e; exact h1 v (by simp) x (Option.some.inj e)
     · simp
   · exact h0 x
theorem Ask.cells {q : Nat} {T : TypeId} {cs : Array Value} (h : Ask w w' B Bp d p c P) (ho : Own w' q T cs) (hT : PgT T) (h0 : ∀ x, cs[0]? ≠ some (.int .u8 x)) (hq : w.heap.size <= q) (vs : List Value) (h1 : ∀ v ∈ vs, ∀ x, v ≠ .int .u8 x) : Ask w (w'.setCells q 0 vs) B Bp d p c P :=
 ⟨Vp hT vs 0 w' cs h.1 ho h0 h1, xU (.inr hq) vs w' 0 h.2⟩
theorem jI (h : zG w B Bp d p c P) : Calls Tryz.prog 67 #[.pointer (some ⟨d, 0, none⟩)] w fun e w' => e = .returned (.bool P.s.down) /\ w = w' := by
 obtain ⟨sb, mb, sc, wv, lg, lm, pl, R, h⟩ := h;exact mD h.disk
theorem mX (h : zG w B Bp d p c P) (hd : P.s.down = false) (no : Nat) (hno : no < P.most) (hc : c + 2 < 1000000) : Calls Tryz.prog 73 #[.pointer (some ⟨p, 0, none⟩), .int .i64 (no : Int)] w fun e w' => e = .returned (Je no (P.view no)) /\ Ask w w' B Bp d p (c + 2) P := by
 obtain ⟨sb, mb, sc, wv, lg, lm, pl, R, h⟩ := h;refine (zL0 h hd no hno hc).mono ?_;rintro e w2 ⟨rfl, ⟨R', h2⟩, hc2⟩;exact ⟨rfl, ⟨sb, mb, sc, wv, lg, lm, pl, R', h2⟩, hc2⟩
theorem Zy (h : zG w B Bp d p c P) : Calls Tryz.prog 38 #[.pointer (some ⟨p, 0, none⟩)] w fun e w' => e = .returned (.int .i64 (P.most : Int)) /\ Below w.heap.size w w' := by
 obtain ⟨sb, mb, sc, wv, lg, lm, pl, R, h⟩ := h;have HM := Lh (Ui h.disk P.ll h.ok.fit);have HE := Lh (show P.most = (P.N - 2 - P.ll) / 8 from rfl);have ho : Own w p 131 #[.pointer (some ⟨d, 0, none⟩), .int .i64 (P.ll : Int), .int .u64 (P.seq : Int), .pointer (some ⟨lg, 0, none⟩), .map (some lm), .int .i64 (P.room : Int), .pointer (some ⟨pl, 0, none⟩), .bool P.failed] := h.own;obtain ⟨q1, q2, q3⟩ := ho.at_;unfold uW at HM;rw [HE.out];clear h ho;go_enter Tryz.func38, Tryz.ntmps38;go_wp2_with (go_at_call 71; refine HM.out.mono ?_; rintro e w2 ⟨rfl, hb2⟩)
 go_ret;exact ⟨rfl, hb2⟩
set_option maxRecDepth 10000 in
theorem mS (h : zG w B Bp d p c P) (hd : P.s.down = false) (hc : c + 2 < 1000000) : Calls Tryz.prog 76 #[.pointer (some ⟨p, 0, none⟩)] w fun e w' => e = .returned (.tuple #[hV P.used P.free P.root, .int .i64 0]) /\ Ask w w' B Bp d p (c + 2) P := by
 have hok := h.ok;have hx := hok.hd.ok;have B0 := zF w 114 #[.int .i64 0, .int .i64 0, .int .u64 0, .int .u64 0, .int .u64 0, .int .u64 0, .int .u64 0, .int .u64 0, .int .u64 0, .int .u64 0];have O0 := Own.made w 114 #[.int .i64 0, .int .i64 0, .int .u64 0, .int .u64 0, .int .u64 0, .int .u64 0, .int .u64 0, .int .u64 0, .int .u64 0, .int .u64 0];have FD := mX (h.below B0) hd 0 (by have := hok.most; omega) hc;have HH := Lh (fun w => fT 0 (P.view 0).1 w hx.size);have e0 := hok.hd0;have EU := Lh (show hV P.used P.free P.root = hV (rdU (P.view 0).1.2) (rdF (P.view 0).1.2) (rdR (P.view 0).1.2) from rfl);unfold Je at FD;rw [e0, if_pos rfl] at FD;rw [EU.out];obtain ⟨x, hxx⟩ : ∃ x, x = (P.view 0).1 := ⟨_, rfl⟩
 rw [<- hxx] at FD HH ⊢;unfold shV at FD HH;obtain ⟨u, hu⟩ : ∃ u, u = rdU x.2 := ⟨_, rfl⟩
 obtain ⟨f, hf⟩ : ∃ f, f = rdF x.2 := ⟨_, rfl⟩
 obtain ⟨r, hr⟩ : ∃ r, r = rdR x.2 := ⟨_, rfl⟩
 rw [<- hu, <- hf, <- hr] at HH ⊢;unfold hV hC at HH ⊢;have FDh := Lh FD;have HB0 := Lh B0;have HO0 := Lh O0;clear h hok hx FD e0 EU hxx hu hf hr B0 O0;go_enter Tryz.func76, Tryz.ntmps76;go_wp2_with (first
   | (go_at_call 73; refine FDh.out.mono ?_; rintro e w2 ⟨rfl, hA2⟩; have A2 := Lh hA2; have O2 := Lh (yX hA2.2 HO0.out (by decide) (by decide)); clear hA2)
   | (go_at_call 144; refine (HH.out _).mono ?_; rintro e w3 ⟨rfl, hb3⟩; have A3 := Lh ((A2.out.below (zF w2 112 #[.int .i64 0, .int .i64 (x.1 : Int), .string x.2])).below hb3); have O3 := Lh ((O2.out.more (.cells #[.int .i64 0, .int .i64 (x.1 : Int), .string x.2] 112)).keep hb3); clear hb3; obtain ⟨o1, o2, o3⟩ := O3.out.at_))
 refine bodyPost_ret (by simp [results, Tryz.results76, go_sem, *]) rfl ⟨rfl, ?_⟩;exact (Ask.from_ HB0.out A3.out).cells O3.out (by unfold PgT; decide) (by simp) (Nat.le_refl _) [.int .i64 (u : Int), .int .i64 (f : Int), .int .u64 (r 0 : Int), .int .u64 (r 1 : Int), .int .u64 (r 2 : Int), .int .u64 (r 3 : Int), .int .u64 (r 4 : Int), .int .u64 (r 5 : Int), .int .u64 (r 6 : Int), .int .u64 (r 7 : Int)] (by simp)
theorem zE2 (h : zG w B Bp d p c P) (hd : P.s.down = true) : Calls Tryz.prog 37 #[.pointer (some ⟨p, 0, none⟩)] w fun e w' => e = .returned (.int .i64 0) /\ w = w' := by
 have HD := Lh (jI h);rw [hd] at HD;obtain ⟨lg, lm, pl, ho⟩ := h.cells;obtain ⟨q1, q2, q3⟩ := ho.at_;clear h hd ho;go_enter Tryz.func37, Tryz.ntmps37;go_wp2_with (go_at_call 67; refine HD.out.mono ?_; rintro e w2 ⟨rfl, rfl⟩)
 go_ret;exact ⟨rfl, rfl⟩
theorem gO (h : zG w B Bp d p c P) (hd : P.s.down = false) (hc : c + 2 < 1000000) : Calls Tryz.prog 37 #[.pointer (some ⟨p, 0, none⟩)] w fun e w' => e = .returned (.int .i64 (P.used : Int)) /\ Ask w w' B Bp d p (c + 2) P := by
 have HD := Lh (jI h);rw [hd] at HD;have HH := mS h hd hc;unfold hV hC at HH;replace HH := Lh HH;obtain ⟨lg, lm, pl, ho⟩ := h.cells;obtain ⟨q1, q2, q3⟩ := ho.at_;clear h hd ho;go_enter Tryz.func37, Tryz.ntmps37;go_wp2_with (first
   | (go_at_call 67; refine HD.out.mono ?_; rintro e w2 ⟨rfl, rfl⟩)
   | (go_at_call 76; refine HH.out.mono ?_; rintro e w3 ⟨rfl, hA3⟩))
 go_ret;exact ⟨rfl, hA3.below (zF _ _ _)⟩
def PS.pages (P : PS) : Nat := if P.s.down then 0 else P.used
theorem zIe (h : zG w B Bp d p c P) (hc : c + 2 < 1000000) : Calls Tryz.prog 37 #[.pointer (some ⟨p, 0, none⟩)] w fun e w' => e = .returned (.int .i64 (P.pages : Int)) /\ Ask w w' B Bp d p (c + 2) P := by
 unfold PS.pages;cases hd : P.s.down with
 | true =>
   refine (zE2 h hd).mono ?_;rintro e w' ⟨rfl, rfl⟩;exact ⟨rfl, (Ask.same h).more (by omega)⟩
 | false => exact gO h hd hc
end
end
section
def rdV (r : Pag × Nat) : Value := .tuple #[.int .i64 (if r.2 = 0 then r.1.1 else 0 : Nat), .string (if r.2 = 0 then r.1.2 else ⟨#[]⟩), .int .i64 (r.2 : Int)]
def noV (e : Int) : Value := .tuple #[.int .i64 0, .string ⟨#[]⟩, .int .i64 e]
section
variable {w w' : World} {B Bp d p c : Nat} {P : PS}
theorem zKt (p : Nat) (no : Int) (hn : no < 0) (w : World) : Calls Tryz.prog 39 #[.pointer (some ⟨p, 0, none⟩), .int .i64 no] w fun e w' => e = .returned (noV 1) /\ w = w' := by
 unfold noV;go_enter Tryz.func39, Tryz.ntmps39;go_wp2;go_ret3;exact ⟨rfl, rfl⟩
theorem zJk (h : zG w B Bp d p c P) (hd : P.s.down = false) (no : Int) (hn : (P.used : Int) <= no) (hc : c + 2 < 1000000) : Calls Tryz.prog 39 #[.pointer (some ⟨p, 0, none⟩), .int .i64 no] w fun e w' => e = .returned (noV 1) /\ Ask w w' B Bp d p (c + 2) P := by
 have HD := Lh (jI h);rw [hd] at HD;have HP := Lh (gO h hd hc);obtain ⟨lg, lm, pl, ho⟩ := h.cells;obtain ⟨q1, q2, q3⟩ := ho.at_;have h0 : 0 <= no := by omega
 clear h hd ho;unfold noV;go_enter Tryz.func39, Tryz.ntmps39;go_wp2_with (first | (go_at_call 67; refine HD.out.mono ?_; rintro e w2 ⟨rfl, rfl⟩) | (go_at_call 37; refine HP.out.mono ?_; rintro e w3 ⟨rfl, hA⟩))
 go_ret3;exact ⟨rfl, hA⟩
set_option maxRecDepth 10000 in
theorem zGf (h : zG w B Bp d p c P) (hd : P.s.down = false) (no : Nat) (hn : no < P.used) (hc : c + 4 < 1000000) : Calls Tryz.prog 39 #[.pointer (some ⟨p, 0, none⟩), .int .i64 (no : Int)] w fun e w' => e = .returned (rdV (P.view no)) /\ Ask w w' B Bp d p (c + 4) P := by
 have hok := h.ok;have HD := Lh (jI h);rw [hd] at HD;have HP := Lh (gO h hd (by omega));have FD : Hid (∀ w1, Ask w w1 B Bp d p (c + 2) P -> Calls Tryz.prog 73 #[.pointer (some ⟨p, 0, none⟩), .int .i64 (no : Int)] w1 fun e w' => e = .returned (Je no (P.view no)) /\ Ask w1 w' B Bp d p (c + 4) P) := Lh fun w1 h1 => mX h1.1 hd no (by have := hok.used; omega) (by omega)
 obtain ⟨lg, lm, pl, ho⟩ := h.cells;obtain ⟨q1, q2, q3⟩ := ho.at_;obtain ⟨r, hr⟩ : ∃ r, r = P.view no := ⟨_, rfl⟩
 rw [<- hr] at FD ⊢;unfold Je at FD;unfold rdV;clear h hd ho hok hr;by_cases c0 : r.2 = 0
 · rw [if_pos c0] at FD ⊢;rw [if_pos c0];unfold shV at FD;obtain ⟨⟨k, t⟩, E⟩ := r;simp only at c0 FD ⊢;subst c0;go_enter Tryz.func39, Tryz.ntmps39;go_upto_region 9 with (first
     | (go_at_call 67; refine HD.out.mono ?_; rintro e w2 ⟨rfl, rfl⟩)
     | (go_at_call 37; refine HP.out.mono ?_; rintro e w3 ⟨rfl, hA⟩; have A3 := Lh hA; clear hA)
     | (go_at_call 73; refine (FD.out _ A3.out).mono ?_; rintro e w4 ⟨rfl, hA⟩; have A4 := Lh (A3.out.then_ hA); clear hA))
   have O5 := (Own.made w4 112 #[.int .i64 (no : Int), .int .i64 (k : Int), .string t])
   have A5 := Lh (A4.out.below (zF w4 112 #[.int .i64 (no : Int), .int .i64 (k : Int), .string t]));refine zA (fun W => Own W w4.heap.size 112 #[.int .i64 (no : Int), .int .i64 (k : Int), .string t]) (0 :: 1 :: 2 :: 3 :: 4 :: 5 :: 6 :: 7 :: []) (1 :: 3 :: []) (0 :: 1 :: 2 :: 3 :: 4 :: 5 :: 6 :: 7 :: []) (by kernel_rfl) (by kernel_rfl) rfl (by kernel_rfl) rfl (O5.drawn) (by simp only [zQ, List.filterMap_cons, List.filterMap_nil, List.getElem?_cons_zero, List.getElem?_cons_succ, Option.map_some]; exact rfl) ?_;iterate 8
     refine zC (v := ?_) rfl rfl (fun W hS => ?_) ?_;rotate_left
     · first
         | (conv => lhs; simp [go_sem]
            first | done | exact rfl)
         | (have hS := hS rfl
            obtain ⟨q1, q2, q3⟩ := Own.at_ hS;conv => lhs; simp [go_sem, *]
            first | done | exact rfl)
     simp only [Act.put, lA, lZ, lS]
   refine zN ?_;go_wp2;go_ret3;exact ⟨rfl, A5.out.below ((Below.refl _ _).drew)⟩
 · rw [if_neg c0] at FD ⊢;rw [if_neg c0];unfold fW at FD;clear c0;obtain ⟨⟨k, t⟩, E⟩ := r;simp only at FD ⊢;go_enter Tryz.func39, Tryz.ntmps39;go_upto_region 9 with (first
     | (go_at_call 67; refine HD.out.mono ?_; rintro e w2 ⟨rfl, rfl⟩)
     | (go_at_call 37; refine HP.out.mono ?_; rintro e w3 ⟨rfl, hA⟩; have A3 := Lh hA; clear hA)
     | (go_at_call 73; refine (FD.out _ A3.out).mono ?_; rintro e w4 ⟨rfl, hA⟩; have A4 := Lh (A3.out.then_ hA); clear hA))
   have O5 := (Own.made w4 112 #[.int .i64 0, .int .i64 0, .string ⟨#[]⟩])
   have A5 := Lh (A4.out.below (zF w4 112 #[.int .i64 0, .int .i64 0, .string ⟨#[]⟩]));refine zA (fun W => Own W w4.heap.size 112 #[.int .i64 0, .int .i64 0, .string ⟨#[]⟩]) (0 :: 1 :: 2 :: 3 :: 4 :: 5 :: 6 :: 7 :: []) (1 :: 3 :: []) (0 :: 1 :: 2 :: 3 :: 4 :: 5 :: 6 :: 7 :: []) (by kernel_rfl) (by kernel_rfl) rfl (by kernel_rfl) rfl (O5.drawn) (by simp only [zQ, List.filterMap_cons, List.filterMap_nil, List.getElem?_cons_zero, List.getElem?_cons_succ, Option.map_some]; exact rfl) ?_;iterate 8
     refine zC (v := ?_) rfl rfl (fun W hS => ?_) ?_;rotate_left
     · first
         | (conv => lhs; simp [go_sem]
            first | done | exact rfl)
         | (have hS := hS rfl
            obtain ⟨q1, q2, q3⟩ := Own.at_ hS;conv => lhs; simp [go_sem, *]
            first | done | exact rfl)
     simp only [Act.put, lA, lZ, lS]
   refine zN ?_;go_wp2;go_ret3;exact ⟨rfl, A5.out.below ((Below.refl _ _).drew)⟩
end
end
end Go.Proofs.YtndhmidgnpobjaaGreatDoor
