import Derived.Test.YthijgebmoadgkaaGreatDoorPgrR
set_option linter.unusedVariables false
set_option linter.unusedSimpArgs false
namespace Go.Proofs.YthijgebmoadgkaaGreatDoor
open Go.ChangeShapes Go.WideShapes Go.ChangeAt Go.RowKit
structure PS.OkB (P : PS) : Prop where
 N : P.N <= 65536
 l10 : 10 <= P.ll
 fit : P.ll + 10 <= P.N
 M : Qj P.most P.M
 T : Qj P.most P.T
 few : P.T.length <= P.room
 r2 : 2 <= P.room
 r6 : P.room <= 65536
 seq : P.seq <= 18446744073709551615
 from_ : P.l.from_ = 2
 size : P.l.size = P.ll
 log : P.l.Ok
theorem PS.OkB.most {P : PS} (h : P.OkB) : 1 <= P.most /\ P.most <= 8191 /\ 2 + P.ll + P.most * 8 <= P.N := by
 have := h.N; have := h.fit; have := h.l10;unfold PS.most;omega
theorem Yw {P : PS} (h : P.OkB) {no : Nat} (h0 : (P.view no).2 = 0) : xW (P.view no).1 := by
 unfold PS.view at h0 ⊢;cases hT : lk P.T no with
 | some x => exact (h.T.2 _ (vU hT)).2
 | none =>
   rw [hT] at h0;simp only at h0 ⊢;unfold PS.base at h0 ⊢;cases hM : lk P.M no with
   | some x => exact (h.M.2 _ (vU hM)).2
   | none =>
     rw [hM] at h0;simp only [dpg] at h0 ⊢;unfold Pg.uK Pg.uT;rw [if_pos h0, if_pos h0];unfold Pg.uE at h0;have hE : hE (dby P.s (2 + P.ll + no * 8)) = 0 := by
       by_cases c : hE (dby P.s (2 + P.ll + no * 8)) = 0
       · exact c
       · rw [if_pos c] at h0; exact absurd h0 c
     refine ⟨?_, zF9 _, Xc _ hE⟩;show 1 <= hK _
     unfold hK;rw [if_pos hE];unfold Go.Proofs.YthijgebmoadgkaaGreatDoor.hE at hE;by_cases c1 : (dby P.s (2 + P.ll + no * 8)).size ≠ 512
     · rw [if_pos c1] at hE; cases hE
     · rw [if_neg c1] at hE;split at hE
       · cases hE
       · split at hE
         · cases hE
         · rename_i c2; omega
structure Pgz (w : World) (B Bp d p c sb mb sc : Nat) (wv : Value) (lg lm pl : Nat) (R : List Po.RF) (P : PS) : Prop where
 disk : zI w d sb mb sc wv P.N P.s
 log : yA w lg d P.l
 own : Own w p 150 (P.cells d lg lm pl)
 map : zW w lm .i64 (P.M.map uD)
 pool : Po.PoolAt w Bp pl P.room c R
 coh : Coh P R
 ok : P.OkB
 b1 : B <= d
 b2 : B <= sb
 b3 : B <= mb
 b4 : ∀ g, wv.ownBlock = some g -> B <= g
 b5 : B <= lg
 b6 : B <= lm
 b7 : B <= p
 b8 : B <= Bp
 a1 : sb < Bp
 a2 : mb < Bp
 a3 : lm < Bp
 a4 : lm ≠ mb
section
variable {w w' : World} {B Bp d p c sb mb sc lg lm pl : Nat} {wv : Value} {R : List Po.RF} {P : PS}
theorem Pgz.not_pt (h : Pgz w B Bp d p c sb mb sc wv lg lm pl R P) {q : Nat} (hq : q = lg \/ q = p \/ q = lm \/ fp d sb mb wv q) : ¬ Po.PT w Bp q := fun k => by
 have key : ∀ {T : TypeId} {cs : Array Value}, w.heap[q]? = some (.cells cs T (0, 0)) -> T ≠ 255 -> T ≠ 269 -> False := fun ho h1 h2 => by
   rcases k.2 with ⟨es, ck, h⟩ | ⟨cs', h⟩ | ⟨cs', h⟩
   · rw [ho] at h; cases h
   · unfold Own at h;rw [ho] at h;injection h with h;injection h with e1 e2;exact h1 e2
   · unfold Own at h;rw [ho] at h;injection h with h;injection h with e1 e2;exact h2 e2
 rcases hq with e | e | e | e | e | e | e
 · subst e; exact key h.log (by decide) (by decide)
 · subst e; exact key h.own (by decide) (by decide)
 · subst e; have := h.a3; have := k.1; omega
 · subst e; exact key h.disk.own (by decide) (by decide)
 · subst e; have := h.a1; have := k.1; omega
 · subst e; have := h.a2; have := k.1; omega
 · rcases h.disk.wrs.2 with ⟨h6, _⟩ | ⟨g6, c6, u6, h6, _, h7, _⟩
   · rw [h6] at e; cases e
   · rw [h6] at e;injection e with e;have e : g6 = q := e;subst e;exact key h7 (by decide) (by decide)
theorem Pgz.pooled (h : Pgz w B Bp d p c sb mb sc wv lg lm pl R P) {c' : Nat} {R' : List Po.RF} (hc : Chg (Po.PT w Bp) w w') (hp : Po.PoolAt w' Bp pl P.room c' R') (hR : Coh P R') : Pgz w' B Bp d p c' sb mb sc wv lg lm pl R' P :=
 { h with
   disk := h.disk.keep hc fun q hq => h.not_pt (.inr (.inr (.inr hq)))
   log := hc.own h.log (h.not_pt (.inl rfl))
   own := hc.own h.own (h.not_pt (.inr (.inl rfl)))
   map := h.map.keep (hc.block lm h.map.in_ (h.not_pt (.inr (.inr (.inl rfl)))))
   pool := hp
   coh := hR }
theorem Pgz.below (h : Pgz w B Bp d p c sb mb sc wv lg lm pl R P) (hb : Below w.heap.size w w') : Pgz w' B Bp d p c sb mb sc wv lg lm pl R P :=
 { h with disk := h.disk.below hb, log := Own.keep h.log hb, own := h.own.keep hb, map := h.map.keep (hb.block lm h.map.in_), pool := h.pool.below hb }
theorem Pgz.more (h : Pgz w B Bp d p c sb mb sc wv lg lm pl R P) {c' : Nat} (hc : c <= c') : Pgz w B Bp d p c' sb mb sc wv lg lm pl R P := { h with pool := h.pool.more hc }
theorem Pgz.keep (h : Pgz w B Bp d p c sb mb sc wv lg lm pl R P) {Z : Nat -> Prop} (hc : Chg Z w w') (hz : ∀ q, (q = lg \/ q = p \/ q = lm \/ fp d sb mb wv q \/ Po.PT w Bp q) -> ¬ Z q) : Pgz w' B Bp d p c sb mb sc wv lg lm pl R P :=
 { h with
   disk := h.disk.keep hc fun q hq => hz q (.inr (.inr (.inr (.inl hq))))
   log := hc.own h.log (hz lg (.inl rfl))
   own := hc.own h.own (hz p (.inr (.inl rfl)))
   map := h.map.keep (hc.block lm h.map.in_ (hz lm (.inr (.inr (.inl rfl)))))
   pool := h.pool.keep hc fun q hq => hz q (.inr (.inr (.inr (.inr hq)))) }
theorem Pgz.own_apart (h : Pgz w B Bp d p c sb mb sc wv lg lm pl R P) {q : Nat} {T : TypeId} {cs : Array Value} (ho : Own w q T cs) (hT : PgT T) (h0 : ∀ x, cs[0]? ≠ some (.int .u8 x)) : ¬ (q = lg \/ q = p \/ q = lm \/ fp d sb mb wv q \/ Po.PT w Bp q) := fun k => by
 rcases k with e | e | e | e | e
 · exact ho.type_ne (show Own w lg _ _ from h.log) hT.2.2.1 e
 · exact ho.type_ne h.own hT.2.2.2.1 e
 · exact h.map.ne ho e.symm
 · exact h.disk.no_own ho hT.1 hT.2.1 h0 e
 · obtain ⟨-, e⟩ := e;unfold Own at ho e;rw [ho] at e;rcases e with ⟨es, ck, e⟩ | ⟨cs', e⟩ | ⟨cs', e⟩
   · cases e
   · injection e with e; injection e with e1 e2; exact hT.2.2.2.2.1 e2
   · injection e with e; injection e with e1 e2; exact hT.2.2.2.2.2 e2
theorem Pgz.cell (h : Pgz w B Bp d p c sb mb sc wv lg lm pl R P) {q : Nat} {T : TypeId} {cs : Array Value} (ho : Own w q T cs) (hT : PgT T) (h0 : ∀ x, cs[0]? ≠ some (.int .u8 x)) (i : Nat) (v : Value) : Pgz (w.setCell ⟨q, i, none⟩ v) B Bp d p c sb mb sc wv lg lm pl R P :=
 h.keep (yT w q i v) fun z hz e => h.own_apart ho hT h0 (by rw [show z = q from e] at hz; exact hz)
end
section
variable {w w' : World} {B Bp d p c sb mb sc lg lm pl : Nat} {wv : Value} {R : List Po.RF} {P : PS}
set_option maxRecDepth 10000 in
set_option maxHeartbeats 1000000 in
theorem zHj (h : Pgz w B Bp d p c sb mb sc wv lg lm pl R P) (hd : P.s.down = false) (no : Nat) (hno : no < P.most) (hc : c + 2 < 1000000) :
   Calls Tryz.prog 82 #[.pointer (some ⟨p, 0, none⟩), .int .i64 (no : Int)] w fun e w' => e = .returned (mY no (P.view no)) /\ (∃ R', Pgz w' B Bp d p (c + 2) sb mb sc wv lg lm pl R' P) /\ Chg (Po.PT w Bp) w w' := by
 have hm := h.ok.most;have B0 := zG w 131 #[.int .i64 0, .int .i64 0, .string ⟨#[]⟩];have O0 := Own.made w 131 #[.int .i64 0, .int .i64 0, .string ⟨#[]⟩];have H0 := h.below B0;have GET := Po.get_any H0.pool (no : Int) (by omega);have PM := Uh H0.pool.ok (no : Int);have PC : Hid (P.cells d lg lm pl = #[.pointer (some ⟨d, 0, none⟩), .int .i64 (P.ll : Int), .int .u64 (P.seq : Int), .pointer (some ⟨lg, 0, none⟩), .map (some lm), .int .i64 (P.room : Int), .pointer (some ⟨pl, 0, none⟩), .bool P.failed]) := Lh rfl;cases hl : Po.look R (no : Int) with
 | some f =>
   obtain ⟨x, hx, hs, hv⟩ := h.coh.look hl;have EG : Po.getR R (no : Int) = ((f.s, true), (Po.getR R (no : Int)).2) := by unfold Po.getR; rw [hl]
   rw [EG, hs] at GET;have CR := h.coh.perm PM;obtain ⟨R', hR'⟩ : ∃ R', R' = (Po.getR R (no : Int)).2 := ⟨_, rfl⟩
   rw [<- hR'] at GET CR;have FR := Lh (fun w => uF no x w hx);rw [hv];unfold mY;rw [if_pos rfl];obtain ⟨F, hF⟩ : ∃ F, F = fr x := ⟨_, rfl⟩
   rw [<- hF] at GET FR;obtain ⟨q1, q2, q3⟩ := H0.own.at_;rw [PC.out] at q1;have GETh := Lh GET;have HH := Lh H0;have HB0 := Lh B0;have HO0 := Lh O0;have HCR := Lh CR;unfold shV at FR ⊢;clear h GET PM H0 B0 O0 CR hs hv EG hR' hF hx hl hm;go_enter Tryz.func82, Tryz.ntmps82;go_wp2_with (first
     | (go_at_call 167; refine GETh.out.mono ?_; rintro e w1 ⟨rfl, hp1, hc1⟩; have K1 := Lh (HH.out.pooled hc1 hp1 HCR.out); have O1 := Lh (yZ hc1 HO0.out (by decide) (by decide)); have C1 := Lh (yU (Chg.of HB0.out) hc1); clear hp1 hc1)
     | (go_at_call 168; refine (FR.out _).mono ?_; rintro e w2 ⟨rfl, hb2⟩; have K2 := Lh (K1.out.below hb2); have O2 := Lh (O1.out.keep hb2); have C2 := Lh (xD C1.out hb2); clear hb2; obtain ⟨o1, o2, o3⟩ := O2.out.at_))
   refine bodyPost_ret (by simp [results, Tryz.results82, go_sem, *]) rfl ⟨rfl, ⟨R', ?_⟩, ?_⟩
   · have kk := K2.out.more (show c + 1 <= c + 2 by omega);have oo := O2.out;have k0 := kk.cell oo (by unfold PgT; decide) (by simp) 0 (.int .i64 (no : Int));have o1 := oo.put 0 (.int .i64 (no : Int));have k1 := k0.cell o1 (by unfold PgT; decide) (by simp) 1 (.int .i64 (x.1 : Int));have o2 := o1.put 1 (.int .i64 (x.1 : Int));exact k1.cell o2 (by unfold PgT; decide) (by simp) 2 (.string x.2)
   · exact ((C2.out.set ⟨_, 0, none⟩ (.inr (Nat.le_refl _)) _).set ⟨_, 1, none⟩ (.inr (Nat.le_refl _)) _).set ⟨_, 2, none⟩ (.inr (Nat.le_refl _)) _
 | none =>
   have hT := h.coh.miss hl;have hv : P.view no = P.base no := by unfold PS.view; rw [hT]
   have EG : Po.getR R (no : Int) = ((⟨#[]⟩, false), R) := by unfold Po.getR; rw [hl]
   rw [EG] at GET;simp only at GET;rw [hv];have GETh := Lh GET;have HH := Lh H0;have HB0 := Lh B0;have HO0 := Lh O0;have HCR := Lh h.coh;have HNO := Lh hno;have HT := Lh hT;have HD := Lh hd;obtain ⟨q1, q2, q3⟩ := H0.own.at_;rw [PC.out] at q1;have hfit : 2 + P.ll + no * 8 + 8 <= P.N := by omega
   have h8 : no <= 8191 := by omega
   clear GET PM H0 B0 O0 hv EG hl hm hT;cases hM : lk P.M no with
   | some x =>
     have hb : P.base no = (x, 0) := by unfold PS.base; rw [hM]
     have hx : xW x := (h.ok.M.2 _ (vU hM)).2;rw [hb];unfold mY;rw [if_pos rfl];have LK : Hid (∀ w1, Pgz w1 B Bp d p (c + 1) sb mb sc wv lg lm pl R P -> (Instr.lookup 143 (.map (some lm)) (.int .i64 (no : Int)) true).run Tryz.prog w1 = .ok (.tuple #[shV no x, .bool true]) w1) := Lh fun w1 h1 => h1.map.look2 Tryz.underlying143 Tryz.underlying3 (gQ w1) (zFj hM)
     have FRM := Lh (fun w => gF no x.1 x.2 w hx.hi (by rw [hx.size]; omega));have FR := Lh (fun w => uF no x w hx);have CP := Lh (fun n => Coh.put HCR.out (n := n) hno hx HT.out hb);have efr : fr (x.1, fl x.2) = fr x := by rw [vL _ hx.size]
     rw [efr] at FRM;have hfz := gX hx.size;obtain ⟨F, hF⟩ : ∃ F, F = fr x := ⟨_, rfl⟩
     rw [<- hF] at FRM FR CP hfz;have PUT : Hid (∀ w1, Pgz w1 B Bp d p (c + 1) sb mb sc wv lg lm pl R P -> Calls Tryz.prog 171 #[.pointer (some ⟨pl, 0, none⟩), .int .i64 (no : Int), .string F] w1 fun e w' => (∃ q : Int, e = .returned (.int .i64 q)) /\ Pgz w' B Bp d p (c + 2) sb mb sc wv lg lm pl (Po.putR R P.room (no : Int) F).2 P /\ Chg (Po.PT w1 Bp) w1 w') := Lh fun w1 h1 => by
       refine (Po.put_any h1.pool (no : Int) F (by omega) (by omega)).mono ?_;rintro e w2 ⟨rfl, hp2, hc2⟩;exact ⟨⟨_, rfl⟩, h1.pooled hc2 hp2 (CP.out _), hc2⟩
     unfold shV at LK FR ⊢;clear h hb hx hM efr hF hno hd hfit CP hfz;go_enter Tryz.func82, Tryz.ntmps82;go_wp2_with (first
       | (go_at_call 167; refine GETh.out.mono ?_; rintro e w1 ⟨rfl, hp1, hc1⟩; have K1 := Lh (HH.out.pooled hc1 hp1 HCR.out); have O1 := Lh (yZ hc1 HO0.out (by decide) (by decide)); have C1 := Lh (yU (Chg.of HB0.out) hc1); clear hp1 hc1; obtain ⟨q1, q2, q3⟩ := K1.out.own.at_; rw [PC.out] at q1; have LKU := LK.out w1 K1.out)
       | (go_at_call 170; refine (FRM.out _).mono ?_; rintro e w3 ⟨rfl, hb3⟩; have K3 := Lh ((K1.out.below (zG w1 131 _)).below hb3); have O3 := Lh ((O1.out.more _).keep hb3); have C3 := Lh (xD C1.out (then_ (zG w1 _ _) hb3 (by simp))); clear hb3; obtain ⟨q1, q2, q3⟩ := K3.out.own.at_; rw [PC.out] at q1)
       | (go_at_call 171; refine (PUT.out _ K3.out).mono ?_; rintro e w4 ⟨⟨q, rfl⟩, k4, hc4⟩; have K4 := Lh k4; have O4 := Lh (yZ hc4 O3.out (by decide) (by decide)); have C4 := Lh (yU C3.out hc4); clear k4 hc4)
       | (go_at_call 168; refine (FR.out _).mono ?_; rintro e w5 ⟨rfl, hb5⟩; have K5 := Lh (K4.out.below hb5); have O5 := Lh (O4.out.keep hb5); have C5 := Lh (xD C4.out hb5); clear hb5; obtain ⟨o1, o2, o3⟩ := O5.out.at_))
     refine bodyPost_ret (by simp [results, Tryz.results82, go_sem, *]) rfl ⟨rfl, ⟨(Po.putR R P.room (no : Int) F).2, ?_⟩, ?_⟩
     · have kk := K5.out.more (show c + 2 <= c + 2 by omega);have oo := O5.out;have k0 := kk.cell oo (by unfold PgT; decide) (by simp) 0 (.int .i64 (no : Int));have o1 := oo.put 0 (.int .i64 (no : Int));have k1 := k0.cell o1 (by unfold PgT; decide) (by simp) 1 (.int .i64 (x.1 : Int));have o2 := o1.put 1 (.int .i64 (x.1 : Int));exact k1.cell o2 (by unfold PgT; decide) (by simp) 2 (.string x.2)
     · exact ((C5.out.set ⟨_, 0, none⟩ (.inr (Nat.le_refl _)) _).set ⟨_, 1, none⟩ (.inr (Nat.le_refl _)) _).set ⟨_, 2, none⟩ (.inr (Nat.le_refl _)) _
   | none =>
     have hb : P.base no = dpg P.s P.ll no := by unfold PS.base; rw [hM]
     rw [hb];have hz := zDe h.disk.ok (2 + P.ll + no * 8) (by omega);have LK : Hid (∀ w1, Pgz w1 B Bp d p (c + 1) sb mb sc wv lg lm pl R P -> (Instr.lookup 143 (.map (some lm)) (.int .i64 (no : Int)) true).run Tryz.prog w1 = .ok (.tuple #[fR, .bool false]) w1) := Lh fun w1 h1 => h1.map.miss2 Tryz.underlying143 Tryz.underlying3 (gQ w1) (zGt hM)
     have RD : Hid (∀ w1, Pgz w1 B Bp d p (c + 1) sb mb sc wv lg lm pl R P -> Calls Tryz.prog 169 #[uM d P.ll, .int .i64 (no : Int)] w1 fun e w' => e = .returned (.tuple #[.string (dby P.s (2 + P.ll + no * 8)), .int .i64 0]) /\ Below w1.heap.size w1 w') := Lh fun w1 h1 => zAq h1.disk hd P.ll no hfit
     have SO := Lh (fun w => fG no (dby P.s (2 + P.ll + no * 8)) w (by omega));have HBS := Lh hb;unfold dpg at hb ⊢;obtain ⟨b, hbb⟩ : ∃ b, b = dby P.s (2 + P.ll + no * 8) := ⟨_, rfl⟩
     rw [<- hbb] at RD SO hb ⊢;unfold uM at RD;unfold mY;simp only;by_cases hE : Pg.uE b no = 0
     · have hpk : xW (Pg.uK b no, Pg.uT b no) := by
         have := Yw h.ok (no := no) (by unfold PS.view; rw [HT.out, hb]; exact hE);unfold PS.view at this;rw [HT.out, hb] at this;exact this
       have hb2 : P.base no = ((Pg.uK b no, Pg.uT b no), 0) := by rw [hb, hE]
       obtain ⟨x, hx⟩ : ∃ x : Pag, x = (Pg.uK b no, Pg.uT b no) := ⟨_, rfl⟩
       rw [hE] at SO ⊢;rw [if_pos rfl] at SO ⊢;rw [<- hx] at SO hpk hb2 ⊢;have FRM := Lh (fun w => gF no x.1 x.2 w hpk.hi (by rw [hpk.size]; omega));have FR := Lh (fun w => uF no x w hpk);have CP := Lh (fun n => Coh.put HCR.out (n := n) hno hpk HT.out hb2);have efr : fr (x.1, fl x.2) = fr x := by rw [vL _ hpk.size]
       rw [efr] at FRM;have hfz := gX hpk.size;obtain ⟨F, hF⟩ : ∃ F, F = fr x := ⟨_, rfl⟩
       rw [<- hF] at FRM FR CP hfz;have PUT : Hid (∀ w1, Pgz w1 B Bp d p (c + 1) sb mb sc wv lg lm pl R P -> Calls Tryz.prog 171 #[.pointer (some ⟨pl, 0, none⟩), .int .i64 (no : Int), .string F] w1 fun e w' => (∃ q : Int, e = .returned (.int .i64 q)) /\ Pgz w' B Bp d p (c + 2) sb mb sc wv lg lm pl (Po.putR R P.room (no : Int) F).2 P /\ Chg (Po.PT w1 Bp) w1 w') := Lh fun w1 h1 => by
         refine (Po.put_any h1.pool (no : Int) F (by omega) (by omega)).mono ?_;rintro e w2 ⟨rfl, hp2, hc2⟩;exact ⟨⟨_, rfl⟩, h1.pooled hc2 hp2 (CP.out _), hc2⟩
       unfold shV at SO FR ⊢;unfold fR at LK;clear h hb hx hM efr hF hno hd hfit CP hfz hz hbb hE hpk hb2;go_enter Tryz.func82, Tryz.ntmps82;go_upto_region 12 with (first
         | (go_at_call 167; refine GETh.out.mono ?_; rintro e w1 ⟨rfl, hp1, hc1⟩; have K1 := Lh (HH.out.pooled hc1 hp1 HCR.out); have O1 := Lh (yZ hc1 HO0.out (by decide) (by decide)); have C1 := Lh (yU (Chg.of HB0.out) hc1); clear hp1 hc1; obtain ⟨q1, q2, q3⟩ := K1.out.own.at_; rw [PC.out] at q1; have LKU := LK.out w1 K1.out)
         | (go_at_call 169; refine (RD.out _ (K1.out.below (zG w1 131 #[.int .i64 0, .int .i64 0, .string ⟨#[]⟩]))).mono ?_; rintro e w2 ⟨rfl, hb2⟩; have K2 := Lh ((K1.out.below (zG w1 131 #[.int .i64 0, .int .i64 0, .string ⟨#[]⟩])).below hb2); have O2 := Lh ((O1.out.more (.cells #[.int .i64 0, .int .i64 0, .string ⟨#[]⟩] 131)).keep hb2); have Q2 := Lh ((Own.made w1 131 #[.int .i64 0, .int .i64 0, .string ⟨#[]⟩]).keep hb2); have C2 := Lh (xD C1.out (then_ (zG w1 131 #[.int .i64 0, .int .i64 0, .string ⟨#[]⟩]) hb2 (by simp))); have Z1 := Lh C1.out.size; clear hb2)
         | (go_at_call 166; refine (SO.out _).mono ?_; rintro e w3 ⟨rfl, hb3⟩; have K3 := Lh (K2.out.below hb3); have O3 := Lh (O2.out.keep hb3); have Q3 := Lh (Q2.out.keep hb3); have C3 := Lh (xD C2.out hb3); clear hb3; obtain ⟨o1, o2, o3⟩ := O3.out.at_; obtain ⟨p1, p2, p3⟩ := Q3.out.at_))
       have z1 : w.heap.size < w1.heap.size := (O1.out).in_;have QQ : Own (((w3.setCell ⟨w1.heap.size, 0, none⟩ (.int .i64 (no : Int))).setCell ⟨w1.heap.size, 1, none⟩ (.int .i64 (x.1 : Int))).setCell ⟨w1.heap.size, 2, none⟩ (.string x.2)) w1.heap.size 131 #[.int .i64 (no : Int), .int .i64 (x.1 : Int), .string x.2] := ((Q3.out.put 0 _).put 1 _).put 2 _;have OO : Own (((w3.setCell ⟨w1.heap.size, 0, none⟩ (.int .i64 (no : Int))).setCell ⟨w1.heap.size, 1, none⟩ (.int .i64 (x.1 : Int))).setCell ⟨w1.heap.size, 2, none⟩ (.string x.2)) w.heap.size 131 #[.int .i64 0, .int .i64 0, .string ⟨#[]⟩] := ((O3.out.apart (by omega) _ _).apart (by omega) _ _).apart (by omega) _ _;have KK : Pgz (((w3.setCell ⟨w1.heap.size, 0, none⟩ (.int .i64 (no : Int))).setCell ⟨w1.heap.size, 1, none⟩ (.int .i64 (x.1 : Int))).setCell ⟨w1.heap.size, 2, none⟩ (.string x.2)) B Bp d p (c + 1) sb mb sc wv lg lm pl R P := by
         have k0 := K3.out.cell Q3.out (by unfold PgT; decide) (by simp) 0 (.int .i64 (no : Int));have q0 := Q3.out.put 0 (.int .i64 (no : Int));have k1 := k0.cell q0 (by unfold PgT; decide) (by simp) 1 (.int .i64 (x.1 : Int));have q1 := q0.put 1 (.int .i64 (x.1 : Int));exact k1.cell q1 (by unfold PgT; decide) (by simp) 2 (.string x.2)
       have CC : Chg (Po.PT w Bp) w (((w3.setCell ⟨w1.heap.size, 0, none⟩ (.int .i64 (no : Int))).setCell ⟨w1.heap.size, 1, none⟩ (.int .i64 (x.1 : Int))).setCell ⟨w1.heap.size, 2, none⟩ (.string x.2)) := ((C3.out.set ⟨_, 0, none⟩ (.inr (Nat.le_of_lt z1)) _).set ⟨_, 1, none⟩ (.inr (Nat.le_of_lt z1)) _).set ⟨_, 2, none⟩ (.inr (Nat.le_of_lt z1)) _;go_name_world W4 hW4;rw [hW4] at QQ OO KK CC;clear hW4 O1 O2 O3 Q2 Q3 K1 K2 K3 C1 C2 C3 o1 o2 o3 p1 p2 p3 LKU;obtain ⟨p1, p2, p3⟩ := QQ.at_;obtain ⟨q1, q2, q3⟩ := KK.own.at_;rw [PC.out] at q1;replace QQ := Lh QQ;replace OO := Lh OO;replace KK := Lh KK;replace CC := Lh CC;go_wp2_with (first
         | (go_at_call 170; refine (FRM.out _).mono ?_; rintro e w5 ⟨rfl, hb5⟩; have K5 := Lh (KK.out.below hb5); have O5 := Lh (OO.out.keep hb5); have C5 := Lh (xD CC.out hb5); clear hb5; obtain ⟨q1, q2, q3⟩ := K5.out.own.at_; rw [PC.out] at q1)
         | (go_at_call 171; refine (PUT.out _ K5.out).mono ?_; rintro e w6 ⟨⟨q, rfl⟩, k6, hc6⟩; have K6 := Lh k6; have O6 := Lh (yZ hc6 O5.out (by decide) (by decide)); have C6 := Lh (yU C5.out hc6); clear k6 hc6)
         | (go_at_call 168; refine (FR.out _).mono ?_; rintro e w7 ⟨rfl, hb7⟩; have K7 := Lh (K6.out.below hb7); have O7 := Lh (O6.out.keep hb7); have C7 := Lh (xD C6.out hb7); clear hb7; obtain ⟨o1, o2, o3⟩ := O7.out.at_))
       refine bodyPost_ret (by simp [results, Tryz.results82, go_sem, *]) rfl ⟨rfl, ⟨(Po.putR R P.room (no : Int) F).2, ?_⟩, ?_⟩
       · have kk := K7.out;have oo := O7.out;have k0 := kk.cell oo (by unfold PgT; decide) (by simp) 0 (.int .i64 (no : Int));have o1 := oo.put 0 (.int .i64 (no : Int));have k1 := k0.cell o1 (by unfold PgT; decide) (by simp) 1 (.int .i64 (x.1 : Int));have o2 := o1.put 1 (.int .i64 (x.1 : Int));exact k1.cell o2 (by unfold PgT; decide) (by simp) 2 (.string x.2)
       · exact ((C7.out.set ⟨_, 0, none⟩ (.inr (Nat.le_refl _)) _).set ⟨_, 1, none⟩ (.inr (Nat.le_refl _)) _).set ⟨_, 2, none⟩ (.inr (Nat.le_refl _)) _
     · rw [if_neg hE];rw [if_neg hE] at SO;obtain ⟨E, hEE⟩ : ∃ E, E = Pg.uE b no := ⟨_, rfl⟩
       rw [<- hEE] at SO hE ⊢;have tE : ((E : Int) != 0) = true := by rw [bne_iff_ne]; omega
       unfold fR at LK SO ⊢;clear h hb hM hno hd hfit hz hbb hE hEE;go_enter Tryz.func82, Tryz.ntmps82;go_wp2_with (first
         | (go_at_call 167; refine GETh.out.mono ?_; rintro e w1 ⟨rfl, hp1, hc1⟩; have K1 := Lh (HH.out.pooled hc1 hp1 HCR.out); have O1 := Lh (yZ hc1 HO0.out (by decide) (by decide)); have C1 := Lh (yU (Chg.of HB0.out) hc1); clear hp1 hc1; obtain ⟨q1, q2, q3⟩ := K1.out.own.at_; rw [PC.out] at q1; have LKU := LK.out w1 K1.out)
         | (go_at_call 169; refine (RD.out _ (K1.out.below (zG w1 131 #[.int .i64 0, .int .i64 0, .string ⟨#[]⟩]))).mono ?_; rintro e w2 ⟨rfl, hb2⟩; have K2 := Lh ((K1.out.below (zG w1 131 #[.int .i64 0, .int .i64 0, .string ⟨#[]⟩])).below hb2); have O2 := Lh ((O1.out.more (.cells #[.int .i64 0, .int .i64 0, .string ⟨#[]⟩] 131)).keep hb2); have Q2 := Lh ((Own.made w1 131 #[.int .i64 0, .int .i64 0, .string ⟨#[]⟩]).keep hb2); have C2 := Lh (xD C1.out (then_ (zG w1 131 #[.int .i64 0, .int .i64 0, .string ⟨#[]⟩]) hb2 (by simp))); have zn : w.heap.size ≠ w1.heap.size := Nat.ne_of_lt O1.out.in_; have zm : w1.heap.size ≠ w.heap.size := Nat.ne_of_gt O1.out.in_; clear hb2)
         | (go_at_call 166; refine (SO.out _).mono ?_; rintro e w3 ⟨rfl, hb3⟩; have K3 := Lh (K2.out.below hb3); have O3 := Lh (O2.out.keep hb3); have Q3 := Lh (Q2.out.keep hb3); have C3 := Lh (xD C2.out hb3); clear hb3; obtain ⟨o1, o2, o3⟩ := O3.out.at_; obtain ⟨p1, p2, p3⟩ := Q3.out.at_))
       have z1 : w.heap.size < w1.heap.size := (O1.out).in_;refine bodyPost_ret (by simp [results, Tryz.results82, go_sem, *]) rfl ⟨rfl, ⟨R, ?_⟩, ?_⟩
       · have kk := K3.out.more (show c + 1 <= c + 2 by omega);have a0 := Q3.out;have k0 := kk.cell a0 (by unfold PgT; decide) (by simp) 0 (.int .i64 0);have a1 := a0.put 0 (.int .i64 0);have k1 := k0.cell a1 (by unfold PgT; decide) (by simp) 1 (.int .i64 0);have a2 := a1.put 1 (.int .i64 0);have k2 := k1.cell a2 (by unfold PgT; decide) (by simp) 2 (.string ⟨#[]⟩);have b0 := ((O3.out.apart zn 0 (.int .i64 0)).apart zn 1 (.int .i64 0)).apart zn 2 (.string ⟨#[]⟩);have k3 := k2.cell b0 (by unfold PgT; decide) (by simp) 0 (.int .i64 0);have b1 := b0.put 0 (.int .i64 0);have k4 := k3.cell b1 (by unfold PgT; decide) (by simp) 1 (.int .i64 0);have b2 := b1.put 1 (.int .i64 0);exact k4.cell b2 (by unfold PgT; decide) (by simp) 2 (.string ⟨#[]⟩)
       · exact (((((C3.out.set ⟨w1.heap.size, 0, none⟩ (.inr (Nat.le_of_lt z1)) _).set ⟨w1.heap.size, 1, none⟩ (.inr (Nat.le_of_lt z1)) _).set ⟨w1.heap.size, 2, none⟩ (.inr (Nat.le_of_lt z1)) _).set ⟨_, 0, none⟩ (.inr (Nat.le_refl _)) _).set ⟨_, 1, none⟩ (.inr (Nat.le_refl _)) _).set ⟨_, 2, none⟩ (.inr (Nat.le_refl _)) _
end
end Go.Proofs.YthijgebmoadgkaaGreatDoor
