import Derived.Test.YthijgebmoadgkaaGreatDoorPgwA
set_option linter.unusedVariables false
set_option linter.unusedSimpArgs false
namespace Go.Proofs.YthijgebmoadgkaaGreatDoor
open Go.ChangeShapes Go.WideShapes Go.ChangeAt Go.RowKit
structure Dsk (N ll : Nat) (s : St) (seq first : Nat) (ts : List (Nat × List ByteArray)) (M : List (Nat × Pag)) : Prop where
 sd : Sd N s
 l10 : 10 <= ll
 fit : ll + 10 <= N
 n6 : N <= 65536
 pos : 1 <= seq
 top : seq + 1 <= 18446744073709551615
 f9 : first <= 18446744073709551615
 mrk : vw s (seq % 2) = mkB seq (mkT first ll)
 oth : Vt (vw s ((seq + 1) % 2)) (seq + 1)
 laid : uW (st s 2) 0 ll first ts
 end_ : long ts < ll -> vQ (vw s (2 + long ts)) ((first + ts.length) % 18446744073709551616) = false
 gat : Zi ((N - 2 - ll) / 8) ts = some M
def dbs (s : St) (ll : Nat) (M : List (Nat × Pag)) (no : Nat) : Pag × Nat := match lk M no with
 | some x => (x, 0)
 | none => dpg s ll no
theorem Ur (f ll : Nat) (k : Nat) : (mkT f ll ++ zB k).data.toList = zV f 8 ++ (zV ll 4 ++ List.replicate k 0) := by
 unfold mkT zB;rw [xO, xO, List.append_assoc]
theorem zF8 {most : Nat} (hm : most <= 8191) : ∀ (T M : List (Nat × Pag)), (∀ q ∈ T, q.1 < most /\ xW q.2) -> fD most (T.map fun q => pgB q.2.1 q.1 q.2.2) (some M) = some (yF M T)
 | [], M, _ => rfl
 | q :: T, M, h => by
   obtain ⟨h1, h2⟩ := h q (by simp);have hs := h2.size;have k1 := h2.lo;have k2 := h2.hi;have e : Zg most (some M) (pgB q.2.1 q.1 q.2.2) = some (ins q.1 q.2 M) := by
     unfold Zg;simp only;rw [zCa _ _ _ k1 k2 (by omega) (by omega), zNj _ _ _ k1 k2 (by omega) (by omega), zNp _ _ _ k1 k2 (by omega) (by omega), zNn _ _ _ k1 k2 (by omega) (by omega), if_pos ⟨rfl, h1⟩];have z : q.2.2 ++ zB (496 - q.2.2.size) = q.2.2 := vL _ hs;rw [z]
   show fD most (T.map _) (Zg most (some M) (pgB q.2.1 q.1 q.2.2)) = _
   rw [e];exact zF8 hm T _ fun y hy => h y (by simp [hy])
section
variable {N ll seq first : Nat} {s s' : St} {ts : List (Nat × List ByteArray)} {M M' : List (Nat × Pag)} {ps : List ByteArray} {r : Int × St}
theorem Dsk.fits (h : Dsk N ll s seq first ts M) : long ts <= ll := h.laid.fit
theorem Dsk.ended (h : Dsk N ll s seq first ts M) (hs : Sd N s') (hv : ∀ k, k < 2 + long ts -> vw s' k = vw s k) (he : long ts < ll -> vQ (vw s' (2 + long ts)) ((first + ts.length) % 18446744073709551616) = false) : Dsk N ll s' seq first ts M := by
 have hf := h.fits;exact { h with
   sd := hs
   mrk := by rw [hv _ (by omega)]; exact h.mrk
   oth := by rw [hv _ (by omega)]; exact h.oth
   laid := uW.congr ts _ _ _ h.laid fun q _ b => hv (2 + q) (by omega)
   end_ := he }
theorem Dsk.keep (h : Dsk N ll s seq first ts M) (hs : Sd N s') (hv : ∀ k, k <= 2 + long ts -> vw s' k = vw s k) : Dsk N ll s' seq first ts M :=
 h.ended hs (fun k hk => hv k (by omega)) fun c => by rw [hv _ (Nat.le_refl _)]; exact h.end_ c
theorem Dsk.standing (h : Dsk N ll s seq first ts M) : yG (st s 2) ll first = ts := by
 have hf := h.fits;have hg := Qc ts;have h9 := h.f9;refine uW.stands ts (ll + 1) 0 ll first h.laid (by omega) (by omega) ?_;rw [Nat.zero_add];by_cases c : long ts < ll
 · exact Yt (zBu _ _ _ fun n _ _ e => by
     have h2 := h.end_ c;have e2 : vw s (2 + long ts) = yN ((first + ts.length) % 18446744073709551616) n := e;rw [e2, zFe] at h2;cases h2)
 · rw [show ll - long ts = 0 by omega, Zf]; rfl
theorem Dsk.marks (h : Dsk N ll s seq first ts M) : ctg N (vw s 0) (vw s 1) = some (ll, seq, first) := by
 have hT : (mkT first ll).size <= 48 := by rw [xL]; omega
 have h1 := h.top;have h2 := h.pos;have h9 := h.f9;have h10 := h.l10;have hN := h.fit;have h6 := h.n6;have m1 := Zd seq (mkT first ll) hT;have m2 := zBi seq (mkT first ll) (by omega) hT;have m3 := zB8 seq (mkT first ll) hT;rw [xL] at m3;have key : 0 <= bK (vw s 0) (vw s 1) /\ bN_ (vw s 0) (vw s 1) = seq /\ bT (vw s 0) (vw s 1) = mkT first ll ++ zB 36 := by
   have hm := h.mrk;have ho := h.oth;by_cases c : seq % 2 = 0
   · rw [c] at hm;rw [show (seq + 1) % 2 = 1 by omega] at ho;have k0 : bK (vw s 0) (vw s 1) = 0 := by
       unfold bK;rw [hm, m1, m2];have : (!isM (vw s 1) || decide (mN (vw s 1) <= seq)) = true := by
         cases c1 : isM (vw s 1) with
         | false => rfl
         | true => have := ho.less c1; simp; omega
       rw [this]; rfl
     refine ⟨by omega, ?_, ?_⟩
     · unfold bN_; rw [if_pos k0, hm, m2]
     · unfold bT; rw [if_pos k0, hm, m3]
   · rw [show seq % 2 = 1 by omega] at hm;rw [show (seq + 1) % 2 = 0 by omega] at ho;have k1 : bK (vw s 0) (vw s 1) = 1 := by
       unfold bK;rw [hm, m1, m2];have : (isM (vw s 0) && (!true || decide (seq <= mN (vw s 0)))) = false := by
         cases c1 : isM (vw s 0) with
         | false => rfl
         | true => have := ho.less c1; simp; omega
       rw [this]; rfl
     refine ⟨by omega, ?_, ?_⟩
     · unfold bN_; rw [if_neg (by omega), if_pos k1, hm, m2]
     · unfold bT; rw [if_neg (by omega), if_pos k1, hm, m3]
 obtain ⟨k1, k2, k3⟩ := key;have z : (mkT first ll ++ zB 36).size = 48 := by rw [ByteArray.size_append, xL, xG]
 have g1 : zT (mkT first ll ++ zB 36) 0 8 = first := jV _ 0 8 first (by omega) (by omega) (by show first < 18446744073709551616; omega) (by rw [Ur, List.drop_zero, uR (zN first 8)]);have g2 : zT (mkT first ll ++ zB 36) 8 4 = ll := jV _ 8 4 ll (by omega) (by omega) (by show ll < 4294967296; omega) (by rw [Ur, xF (zN first 8), uR (zN ll 4)]);have g3 : fF ((mkT first ll ++ zB 36).extract 12 (mkT first ll ++ zB 36).size) = true := by
   unfold fF;rw [xE, z, Ur, <- List.append_assoc, xF (by rw [List.length_append, zN, zN])];simp
 unfold ctg;rw [k2, k3, g1, g2, if_pos ⟨by omega, by omega, g3, h10, hN⟩]
theorem Dsk.opens (h : Dsk N ll s seq first ts M) (hd : s.down = false) (h0 : (dbs s ll M 0).2 = 0) (hh : Jq ((N - 2 - ll) / 8) (dbs s ll M 0).1) (r : Nat) : opn N s r = some (opP N s r ll seq first M) /\ (opP N s r ll seq first M).l = ⟨2, ll, long ts, (first + ts.length) % 18446744073709551616, false⟩ := by
 have hN := h.fit;have r0 : (uJ N s 0).1 = vw s 0 := by rw [show (0 : Int) = ((0 : Nat) : Int) from rfl, Xb hd (by omega)]
 have r1 : (uJ N s 1).1 = vw s 1 := by rw [show (1 : Int) = ((1 : Nat) : Int) from rfl, Xb hd (by omega)]
 have hst := h.standing;refine ⟨?_, ?_⟩
 · unfold opn;rw [r0, r1, h.marks];simp only;rw [hst, h.gat];exact if_pos ⟨h0, mH.2 hh⟩
 · unfold opP;simp only;rw [hst]
theorem Dsk.more (h : Dsk N ll s seq first ts M) (n1 : 1 <= ps.length) (n2 : ps.length <= 64) (n3 : 1 + 9 * ps.length <= ll - long ts) (hp : ∀ p ∈ ps, p.size = 512) (hg : fD ((N - 2 - ll) / 8) ps (some M) = some M')
   (hs : Sd N s') (hv : ∀ k, k < 2 + long ts -> vw s' k = vw s k) (hm : vw s' (2 + long ts) = yN ((first + ts.length) % 18446744073709551616) ps.length)
   (hpg : ∀ k (hk : k < ps.length) i, i < 9 -> vw s' (2 + long ts + (1 + 9 * k + i)) = secB (ps[k]'hk) i)
   (he : 2 + long ts + (1 + 9 * ps.length) < 2 + ll -> vQ (vw s' (2 + long ts + (1 + 9 * ps.length))) (((first + ts.length) % 18446744073709551616 + 1) % 18446744073709551616) = false) :
   Dsk N ll s' seq first (ts ++ [((first + ts.length) % 18446744073709551616, ps)]) M' := by
 have hf := h.fits;have h9 := h.f9;obtain ⟨q, hq⟩ : ∃ q, q = (first + ts.length) % 18446744073709551616 := ⟨_, rfl⟩
 rw [<- hq] at hm he ⊢;have hn : ∀ k (hk : k < ps.length), qH (st s' 2) (long ts + 1 + 9 * k) = qI (ps[k]'hk) := fun k hk => by
   unfold qH qI;apply List.map_congr_left
   intro i hi;show vw s' (2 + (long ts + 1 + 9 * k + i)) = _
   rw [show 2 + (long ts + 1 + 9 * k + i) = 2 + long ts + (1 + 9 * k + i) by omega];exact hpg k hk i (List.mem_range.1 hi)
 have hc : cnt (st s' 2 (long ts)) q (ll - long ts) = ps.length := by
   show cnt (vw s' (2 + long ts)) q _ = _
   rw [hm];exact zDc _ _ _ n1 n2 n3
 have ht : txn (st s' 2) (long ts) q (ll - long ts) = ps := by
   rw [zBx, hc]
   · refine List.ext_getElem (gT _ _ _) fun k h1 h2 => ?_
     have e : (pgs (st s' 2) (long ts + 1) ps.length)[k] = mX (qH (st s' 2) (long ts + 1 + 9 * k)) := by simp [pgs]
     rw [e, hn k h2];exact Vd _ (hp _ (List.getElem_mem h2))
   · rw [hc];intro k hk;rw [hn k hk];exact Zm _ (hp _ (List.getElem_mem hk))
 have hl : long (ts ++ [(q, ps)]) = long ts + (1 + 9 * ps.length) := jY _ _;exact { h with
   sd := hs
   mrk := by rw [hv _ (by omega)]; exact h.mrk
   oth := by rw [hv _ (by omega)]; exact h.oth
   laid := uW.snoc _ (by show ps.length ≠ 0; omega) ts 0 ll first (uW.congr ts _ _ _ h.laid fun j _ b => hv (2 + j) (by omega)) (by omega) hq (by rw [Nat.zero_add]; exact ht)
   end_ := fun c => by
     rw [hl] at c ⊢;have h3 := he (by omega);rw [show 2 + (long ts + (1 + 9 * ps.length)) = 2 + long ts + (1 + 9 * ps.length) by omega, List.length_append, List.length_singleton, show (first + (ts.length + 1)) % 18446744073709551616 = (q + 1) % 18446744073709551616 by omega];exact h3
   gat := by
     have hg0 := h.gat;unfold Zi at hg0 ⊢;rw [List.flatMap_append, jZ, hg0, show ([(q, ps)] : List (Nat × List ByteArray)).flatMap (·.2) = ps by simp];exact hg }
theorem zAe {x : Int × St} (h : x.1 = 0) : x = (0, x.2) := by rw [<- h]
theorem zMp (h : Dsk N ll s seq first ts M) (n1 : 1 <= ps.length) (n2 : ps.length <= 64) (n3 : 1 + 9 * ps.length <= ll - long ts) (hp : ∀ p ∈ ps, p.size = 512) (hg : fD ((N - 2 - ll) / 8) ps (some M) = some M') (hw : s.wr = []) (hd : s.down = false)
   (he : 2 + long ts + (1 + 9 * ps.length) < 2 + ll -> vQ (vw s (2 + long ts + (1 + 9 * ps.length))) (((first + ts.length) % 18446744073709551616 + 1) % 18446744073709551616) = false)
   (hr : r = zP N (yB (2 + long ts) ps ((first + ts.length) % 18446744073709551616)) (0, s)) :
   Sd N r.2 /\ ((r.1 = 0 /\ r.2.down = false /\ r.2.wr = [] /\ Dsk N ll r.2 seq first (ts ++ [((first + ts.length) % 18446744073709551616, ps)]) M' /\ ∀ k, 2 + ll <= k -> vw r.2 k = vw s k) \/
     (r.1 = 11 /\ r.2.down = true /\ ∀ kp : Nat -> Nat, (∀ j, kp j <= 64) -> (Dsk N ll (crs kp r.2) seq first ts M \/ Dsk N ll (crs kp r.2) seq first (ts ++ [((first + ts.length) % 18446744073709551616, ps)]) M') /\ ∀ k, 2 + ll <= k -> vw (crs kp r.2) k = vw s k)) /\ (s.fuse < 0 -> r.1 = 0 /\ r.2.fuse = s.fuse) := by
 have hf := h.fits;have hN := h.fit;obtain ⟨q, hq⟩ : ∃ q, q = (first + ts.length) % 18446744073709551616 := ⟨_, rfl⟩
 have hend := h.end_ (by omega);have hmr := fun (s' : St) => h.more (s' := s') n1 n2 n3 hp hg
 rw [<- hq] at hr he hend hmr ⊢;have e : yB (2 + long ts) ps q = ((wl (2 + long ts) ps ps.length).map some ++ [none]) ++ ([(2 + long ts, yN q ps.length)].map some ++ [none]) := by
   unfold yB;rw [zJ1];simp
 have hbase : 2 + long ts + (1 + 9 * ps.length) <= N := by omega
 have S1 := Qw N (wl (2 + long ts) ps ps.length) s h.sd hw hd (zLc hp hbase) (by rw [Zo]; exact List.nodup_range');rw [e, jI] at hr;obtain ⟨x, hx⟩ : ∃ x, x = zP N ((wl (2 + long ts) ps ps.length).map some ++ [none]) (0, s) := ⟨_, rfl⟩
 rw [<- hx] at S1 hr;have wne : ∀ k, (k <= 2 + long ts \/ 2 + long ts + (1 + 9 * ps.length) <= k) -> ∀ y ∈ wl (2 + long ts) ps ps.length, y.1 ≠ k := fun k hk y hy => by
   obtain ⟨k', i, hk', hi, rfl⟩ := zJo hy;show 2 + long ts + (1 + 9 * k' + i) ≠ k
   omega
 rcases S1.way with ⟨a1, a2, a3, a4, a5⟩ | ⟨a1, a2, a3⟩
 · rw [zAe a1] at hr;have hF2 : Up N [(2 + long ts, yN q ps.length)] := by
     intro y hy;obtain rfl : y = (2 + long ts, yN q ps.length) := by simpa using hy
     exact ⟨by show 2 + long ts < N; omega, uZ _ _⟩
   have S2 := Qw N [(2 + long ts, yN q ps.length)] x.2 S1.sd a3 a2 hF2 (by simp);rw [<- hr] at S2;have w1 : ∀ k, (k <= 2 + long ts \/ 2 + long ts + (1 + 9 * ps.length) <= k) -> vw x.2 k = vw s k := fun k hk => a5 k (wne k hk)
   have hpg : ∀ k (hk : k < ps.length) i, i < 9 -> vw x.2 (2 + long ts + (1 + 9 * k + i)) = secB (ps[k]'hk) i := fun k hk i hi => by
     have := a4 _ (zOf (base := 2 + long ts) (ps := ps) hk hi);rw [List.getD_eq_getElem?_getD, List.getElem?_eq_getElem hk] at this;exact this
   have more : ∀ s', Sd N s' -> (∀ k, k ≠ 2 + long ts -> vw s' k = vw x.2 k) -> vw s' (2 + long ts) = yN q ps.length -> Dsk N ll s' seq first (ts ++ [(q, ps)]) M' := fun s' b1 b2 b3 =>
     hmr s' b1 (fun k hk => by rw [b2 k (by omega), w1 k (.inl (by omega))]) b3 (fun k hk i hi => by rw [b2 _ (by omega)]; exact hpg k hk i hi) (fun c => by rw [b2 _ (by omega), w1 _ (.inr (by omega))]; exact he c)
   have one : ∀ k, k ≠ 2 + long ts -> ∀ y ∈ [(2 + long ts, yN q ps.length)], y.1 ≠ k := fun k hk y hy => by
     obtain rfl : y = (2 + long ts, yN q ps.length) := by simpa using hy
     exact fun e => hk e.symm
   refine ⟨S2.sd, ?_, fun hfu => ?_⟩
   · rcases S2.way with ⟨b1, b2, b3, b4, b5⟩ | ⟨b1, b2, b3⟩
     · left
       exact ⟨b1, b2, b3, more _ S2.sd (fun k hk => b5 k (one k hk)) (b4 (2 + long ts, yN q ps.length) (by simp)), fun k hk => by rw [b5 k (one k (by omega)), w1 k (.inr (by omega))]⟩
     · right
       refine ⟨b1, b2, fun kp hkp => ?_⟩;have T := b3 kp hkp;have tn : ∀ k, k ≠ 2 + long ts -> vw (crs kp r.2) k = vw x.2 k := fun k hk => T.ne (one k hk)
       have hsc := Uq S2.sd kp;refine ⟨?_, fun k hk => by rw [tn k (by omega), w1 k (.inr (by omega))]⟩;have en : vQ (vw (crs kp r.2) (2 + long ts)) q = false -> Dsk N ll (crs kp r.2) seq first ts M := fun e => h.ended hsc (fun k hk => by rw [tn k (by omega), w1 k (.inl (by omega))]) fun _ => by rw [<- hq]; exact e
       rcases T (2 + long ts) with e | ⟨t, b, hm, hb, e⟩
       · refine .inl (en ?_);rw [e, w1 _ (.inl (Nat.le_refl _))];exact hend
       · have hm2 : t = yN q ps.length := by simpa using hm
         subst hm2;rcases zHn (n := ps.length) (S1.sd.size (2 + long ts) (by omega)) (by rw [w1 _ (.inl (Nat.le_refl _))]; exact hend) hb with e2 | e2
         · exact .inr (more _ hsc tn (by rw [e, e2]))
         · exact .inl (en (by rw [e]; exact e2))
   · obtain ⟨c1, c2⟩ := S1.live hfu;have c3 := S2.live (by rw [c2]; exact hfu);exact ⟨c3.1, c3.2.trans c2⟩
 · have er : r = x := by rw [hr]; exact xX N _ _ (by omega)
   rw [er];refine ⟨S1.sd, .inr ⟨a1, a2, fun kp hkp => ?_⟩, fun hfu => absurd (S1.live hfu).1 (by omega)⟩;have T := a3 kp hkp;exact ⟨.inl (h.keep (Uq S1.sd kp) fun k hk => T.ne (wne k (.inl hk))), fun k hk => T.ne (wne k (.inr (by omega)))⟩
theorem zI8 (h : Dsk N ll s seq first ts M) {k : Nat} (k1 : 1 <= k) (n3 : k <= ll - long ts) (hw : s.wr = []) (hd : s.down = false)
   (hr : r = vN N s (2 + long ts) ((first + ts.length) % 18446744073709551616) k (2 + ll)) :
   Sd N r.2 /\ ((r.1 = 0 /\ r.2.down = false /\ r.2.wr = [] /\ (∀ j, j ≠ 2 + long ts + k -> vw r.2 j = vw s j) /\ (∀ j, 2 + ll <= j -> vw r.2 j = vw s j) /\ (2 + long ts + k < 2 + ll -> vQ (vw r.2 (2 + long ts + k)) (((first + ts.length) % 18446744073709551616 + 1) % 18446744073709551616) = false)) \/
     (r.1 = 11 /\ r.2.down = true /\ ∀ kp : Nat -> Nat, (∀ j, kp j <= 64) -> (∀ j, j ≠ 2 + long ts + k -> vw (crs kp r.2) j = vw s j) /\ ∀ j, 2 + ll <= j -> vw (crs kp r.2) j = vw s j)) /\ (s.fuse < 0 -> r.1 = 0 /\ r.2.fuse = s.fuse) := by
 have hf := h.fits;have hN := h.fit;obtain ⟨q, hq⟩ : ∃ q, q = (first + ts.length) % 18446744073709551616 := ⟨_, rfl⟩
 have hend := h.end_ (by omega);rw [<- hq] at hr hend ⊢;have e1 : yM s (2 + long ts) q = [] := by unfold yM; rw [hend]; rfl
 rw [gD (x := (0, s)) (by rw [e1]; rfl)] at hr;obtain ⟨at_, hat⟩ : ∃ a, a = 2 + long ts + k := ⟨_, rfl⟩
 rw [<- hat] at hr ⊢;obtain ⟨q', hq'⟩ : ∃ q', q' = (q + 1) % 18446744073709551616 := ⟨_, rfl⟩
 rw [<- hq'] at hr ⊢;by_cases c : at_ < 2 + ll
 · rw [if_pos ⟨rfl, c⟩] at hr;cases ce : vQ (vw s at_) q' with
   | false =>
     have e2 : yM s at_ q' = [] := by unfold yM; rw [ce]; rfl
     have er : r = (0, s) := by rw [hr]; show zP N (yM s at_ q') (0, s) = _; rw [e2]; rfl
     rw [er];exact ⟨h.sd, .inl ⟨rfl, hd, hw, fun _ _ => rfl, fun _ _ => rfl, fun _ => ce⟩, fun _ => ⟨rfl, rfl⟩⟩
   | true =>
     have e2 : yM s at_ q' = [(at_, umB (vw s at_) q')].map some ++ [none] := by unfold yM; rw [ce]; rfl
     have er : r = zP N ([(at_, umB (vw s at_) q')].map some ++ [none]) (0, s) := by rw [hr]; show zP N (yM s at_ q') (0, s) = _; rw [e2]
     have hz := h.sd.size at_ (by omega);have S := Qw N [(at_, umB (vw s at_) q')] s h.sd hw hd (fun y hy => by
       obtain rfl : y = (at_, umB (vw s at_) q') := by simpa using hy
       exact ⟨by show at_ < N; omega, by show (umB _ _).size = 64; rw [fQ (by omega), hz]⟩) (by simp)
     rw [<- er] at S;have one : ∀ j, j ≠ at_ -> ∀ y ∈ [(at_, umB (vw s at_) q')], y.1 ≠ j := fun j hj y hy => by
       obtain rfl : y = (at_, umB (vw s at_) q') := by simpa using hy
       exact fun e => hj e.symm
     refine ⟨S.sd, ?_, S.live⟩;rcases S.way with ⟨b1, b2, b3, b4, b5⟩ | ⟨b1, b2, b3⟩
     · refine .inl ⟨b1, b2, b3, fun j hj => b5 j (one j hj), fun j hj => b5 j (one j (by omega)), fun _ => ?_⟩;have := b4 (at_, umB (vw s at_) q') (by simp);rw [show vw r.2 at_ = umB (vw s at_) q' from this];exact zLf hz (by omega)
     · exact .inr ⟨b1, b2, fun kp hkp => ⟨fun j hj => (b3 kp hkp).ne (one j hj), fun j hj => (b3 kp hkp).ne (one j (by omega))⟩⟩
 · rw [if_neg (fun e => c e.2)] at hr;rw [hr];exact ⟨h.sd, .inl ⟨rfl, hd, hw, fun _ _ => rfl, fun _ _ => rfl, fun e => absurd e c⟩, fun _ => ⟨rfl, rfl⟩⟩
def Jw (ll : Nat) (M : List (Nat × Pag)) : List (Nat × ByteArray) := M.flatMap fun q => (List.range 8).map fun i => (2 + ll + q.1 * 8 + i, Pg.secB (pgB q.2.1 q.1 q.2.2) i)
theorem zDp (ll : Nat) : ∀ M : List (Nat × Pag), xJ ll M = (Jw ll M).map some
 | [] => rfl
 | q :: M => by
   have e1 : xJ ll (q :: M) = vV ll q.1 q.2 ++ xJ ll M := rfl;have e2 : Jw ll (q :: M) = ((List.range 8).map fun i => (2 + ll + q.1 * 8 + i, Pg.secB (pgB q.2.1 q.1 q.2.2) i)) ++ Jw ll M := rfl;rw [e1, e2, List.map_append, List.map_map, zDp ll M];rfl
theorem Xn {y : Nat × ByteArray} (hy : y ∈ Jw ll M) : ∃ q ∈ M, ∃ i, i < 8 /\ y = (2 + ll + q.1 * 8 + i, Pg.secB (pgB q.2.1 q.1 q.2.2) i) := by
 obtain ⟨q, hq, hy⟩ := List.mem_flatMap.1 hy;obtain ⟨i, hi, rfl⟩ := List.mem_map.1 hy;exact ⟨q, hq, i, List.mem_range.1 hi, rfl⟩
theorem zJg {q : Nat × Pag} (hq : q ∈ M) {i : Nat} (hi : i < 8) : (2 + ll + q.1 * 8 + i, Pg.secB (pgB q.2.1 q.1 q.2.2) i) ∈ Jw ll M :=
 List.mem_flatMap.2 ⟨q, hq, List.mem_map.2 ⟨i, List.mem_range.2 hi, rfl⟩⟩
theorem Xo (ll : Nat) : ∀ {M : List (Nat × Pag)}, asc M -> ((Jw ll M).map (·.1)).Nodup
 | [], _ => List.nodup_nil
 | q :: M, h => by
   obtain ⟨h1, h2⟩ := xN.1 h;have e2 : Jw ll (q :: M) = ((List.range 8).map fun i => (2 + ll + q.1 * 8 + i, Pg.secB (pgB q.2.1 q.1 q.2.2) i)) ++ Jw ll M := rfl;have e3 : ((List.range 8).map fun i => (2 + ll + q.1 * 8 + i, Pg.secB (pgB q.2.1 q.1 q.2.2) i)).map (·.1) = List.range' (2 + ll + q.1 * 8) 8 := by
     rw [List.map_map, List.range'_eq_map_range];rfl
   rw [e2, List.map_append, e3];refine List.pairwise_append.2 ⟨List.nodup_range', Xo ll h2, fun a ha b hb => ?_⟩;obtain ⟨y, hy, rfl⟩ := List.mem_map.1 hb;obtain ⟨q', hq', i, hi, rfl⟩ := Xn hy;have := h1 q' hq';have := List.mem_range'_1.1 ha;show a ≠ 2 + ll + q'.1 * 8 + i
   omega
theorem zD2 {M : List (Nat × Pag)} {no : Nat} (h : ∀ i, i < 8 -> vw s' (2 + ll + no * 8 + i) = vw s (2 + ll + no * 8 + i)) : dbs s' ll M no = dbs s ll M no := by
 unfold dbs;rw [jU h]
theorem Dsk.fresh (h : Dsk N ll s seq first ts M) (h2 : seq + 2 <= 18446744073709551615) (hs : Sd N s') (hm : vw s' ((seq + 1) % 2) = mkB (seq + 1) (mkT ((first + ts.length) % 18446744073709551616) ll)) (ho : vw s' (seq % 2) = vw s (seq % 2)) (hl : vw s' 2 = vw s 2) : Dsk N ll s' (seq + 1) ((first + ts.length) % 18446744073709551616) [] [] := by
 have h9 := h.f9;have h10 := h.l10;have hf := h.fits;have hg := Qc ts;have h6 := h.n6;have hN := h.fit;exact { h with
   sd := hs
   pos := by omega
   top := by omega
   f9 := by omega
   mrk := hm
   oth := by
     rw [show (seq + 1 + 1) % 2 = seq % 2 by omega, ho, h.mrk];exact Vt.next (by have := h.top; omega) (by rw [xL]; omega)
   laid := trivial
   end_ := fun _ => by
     show vQ (vw s' (2 + 0)) ((((first + ts.length) % 18446744073709551616) + 0) % 18446744073709551616) = false
     rw [Nat.add_zero, Nat.add_zero, hl, Nat.mod_mod];cases ts with
     | nil => exact h.end_ (by show 0 < ll; omega)
     | cons t ts =>
       obtain ⟨t1, t2, t3, -⟩ := h.laid;have hc : cnt (st s 2 0) first ll ≠ 0 := fun e => by
         have := Yt (f := st s 2) (p := 0) (seq := first) (left := ll) e;rw [t3] at this;exact t2 this
       have e : vw s 2 = yN first (cnt (st s 2 0) first ll) := (Xa _ _ _ hc).2;rw [e];simp only [List.length_cons] at hg ⊢;exact zEw h9 (by omega) (by omega)
   gat := rfl }
theorem zM3 (h : Dsk N ll s seq first ts M) (hM : Qj ((N - 2 - ll) / 8) M) (h2 : seq + 2 <= 18446744073709551615) (hw : s.wr = []) (hd : s.down = false)
   (hr : r = zP N (xZ ll M seq ((first + ts.length) % 18446744073709551616)) (0, s)) :
   Sd N r.2 /\ ((r.1 = 0 /\ r.2.down = false /\ r.2.wr = [] /\ Dsk N ll r.2 (seq + 1) ((first + ts.length) % 18446744073709551616) [] [] /\ ∀ no, dbs r.2 ll [] no = dbs s ll M no) \/
     (r.1 = 11 /\ r.2.down = true /\ ∀ kp : Nat -> Nat, (∀ j, kp j <= 64) -> (Dsk N ll (crs kp r.2) seq first ts M /\ ∀ no, dbs (crs kp r.2) ll M no = dbs s ll M no) \/ (Dsk N ll (crs kp r.2) (seq + 1) ((first + ts.length) % 18446744073709551616) [] [] /\ ∀ no, dbs (crs kp r.2) ll [] no = dbs s ll M no))) /\ (s.fuse < 0 -> r.1 = 0 /\ r.2.fuse = s.fuse) := by
 have hf := h.fits;have hN := h.fit;have h6 := h.n6;have h10 := h.l10;obtain ⟨q, hq⟩ : ∃ q, q = (first + ts.length) % 18446744073709551616 := ⟨_, rfl⟩
 have hfr := fun (s' : St) => h.fresh (s' := s') h2
 rw [<- hq] at hr hfr ⊢;have e : xZ ll M seq q = ((Jw ll M).map some ++ [none]) ++ ([((seq + 1) % 2, mkB (seq + 1) (mkT q ll))].map some ++ [none]) := by
   rw [mR, zDp];simp
 have hsz : ∀ y ∈ Jw ll M, 2 + ll <= y.1 /\ y.1 < N /\ y.2.size = 64 := fun y hy => by
   obtain ⟨p, hp, i, hi, rfl⟩ := Xn hy;obtain ⟨p1, p2⟩ := hM.2 p hp;have := p2.size;refine ⟨by show 2 + ll <= 2 + ll + p.1 * 8 + i; omega, by show 2 + ll + p.1 * 8 + i < N; omega, Pg.secB_size _ _ (vF _ _ _ (by omega)) hi⟩
 have S1 := Qw N (Jw ll M) s h.sd hw hd (fun y hy => (hsz y hy).2) (Xo ll hM.1);rw [e, jI] at hr;obtain ⟨x, hx⟩ : ∃ x, x = zP N ((Jw ll M).map some ++ [none]) (0, s) := ⟨_, rfl⟩
 rw [<- hx] at S1 hr;have lne : ∀ k, k < 2 + ll -> ∀ y ∈ Jw ll M, y.1 ≠ k := fun k hk y hy => by have := (hsz y hy).1; omega
 have pne : ∀ no, lk M no = none -> ∀ i, i < 8 -> ∀ y ∈ Jw ll M, y.1 ≠ 2 + ll + no * 8 + i := fun no hl i hi y hy => by
   obtain ⟨p, hp, j, hj, rfl⟩ := Xn hy;have := zBm hl p hp;show 2 + ll + p.1 * 8 + j ≠ _
   omega
 have dkeep : ∀ s', (∀ k, (∀ y ∈ Jw ll M, y.1 ≠ k) -> 2 + ll <= k -> vw s' k = vw s k) -> ∀ no, dbs s' ll M no = dbs s ll M no := fun s' hs' no => by
   unfold dbs;cases hl : lk M no with
   | some x => rfl
   | none => exact jU fun i hi => hs' _ (pne no hl i hi) (by omega)
 rcases S1.way with ⟨a1, a2, a3, a4, a5⟩ | ⟨a1, a2, a3⟩
 · rw [zAe a1] at hr;have hF2 : Up N [((seq + 1) % 2, mkB (seq + 1) (mkT q ll))] := by
     intro y hy;obtain rfl : y = ((seq + 1) % 2, mkB (seq + 1) (mkT q ll)) := by simpa using hy
     exact ⟨by show (seq + 1) % 2 < N; omega, vD _ _ (by rw [xL]; omega)⟩
   have S2 := Qw N [((seq + 1) % 2, mkB (seq + 1) (mkT q ll))] x.2 S1.sd a3 a2 hF2 (by simp);rw [<- hr] at S2;have one : ∀ k, k ≠ (seq + 1) % 2 -> ∀ y ∈ [((seq + 1) % 2, mkB (seq + 1) (mkT q ll))], y.1 ≠ k := fun k hk y hy => by
     obtain rfl : y = ((seq + 1) % 2, mkB (seq + 1) (mkT q ll)) := by simpa using hy
     exact fun e => hk e.symm
   have w1 : ∀ k, k < 2 + ll -> vw x.2 k = vw s k := fun k hk => a5 k (lne k hk)
   have whole : ∀ s', (∀ k, 2 <= k -> vw s' k = vw x.2 k) -> ∀ no, dbs s' ll [] no = dbs s ll M no := fun s' hs' no => by
     show dpg s' ll no = _
     unfold dbs;cases hl : lk M no with
     | some y =>
       have hm := vU hl;obtain ⟨p1, p2⟩ := hM.2 _ hm;exact Xs p2 (by omega) fun i hi => by
         rw [hs' _ (by omega)];exact a4 _ (zJg (ll := ll) hm hi)
     | none => exact jU fun i hi => by rw [hs' _ (by omega)]; exact a5 _ (pne no hl i hi)
   refine ⟨S2.sd, ?_, fun hfu => ?_⟩
   · rcases S2.way with ⟨b1, b2, b3, b4, b5⟩ | ⟨b1, b2, b3⟩
     · left
       have bn : ∀ k, k ≠ (seq + 1) % 2 -> vw r.2 k = vw x.2 k := fun k hk => b5 k (one k hk)
       refine ⟨b1, b2, b3, hfr _ S2.sd (b4 ((seq + 1) % 2, mkB (seq + 1) (mkT q ll)) (by simp)) ?_ ?_, whole _ fun k hk => bn k (by omega)⟩
       · rw [bn _ (by omega), w1 _ (by omega)]
       · rw [bn _ (by omega), w1 _ (by omega)]
     · right
       refine ⟨b1, b2, fun kp hkp => ?_⟩;have T := b3 kp hkp;have tn : ∀ k, k ≠ (seq + 1) % 2 -> vw (crs kp r.2) k = vw x.2 k := fun k hk => T.ne (one k hk)
       have hsc := Uq S2.sd kp;have same : Vt (vw (crs kp r.2) ((seq + 1) % 2)) (seq + 1) -> (Dsk N ll (crs kp r.2) seq first ts M /\ ∀ no, dbs (crs kp r.2) ll M no = dbs s ll M no) := fun ho => by
         refine ⟨{ h with
           sd := hsc
           mrk := by rw [tn _ (by omega), w1 _ (by omega)]; exact h.mrk
           oth := ho
           laid := uW.congr ts _ _ _ h.laid fun j _ b => by
             show vw (crs kp r.2) (2 + j) = vw s (2 + j)
             rw [tn _ (by omega), w1 _ (by omega)]
           end_ := fun c => by rw [tn _ (by omega), w1 _ (by omega)]; exact h.end_ c }, dkeep _ fun k hk hk2 => by rw [tn k (by omega)]; exact a5 k hk⟩
       rcases T ((seq + 1) % 2) with e | ⟨t, b, hm, hb, e⟩
       · refine .inl (same ?_);rw [e, w1 _ (by omega)];exact h.oth
       · have hm2 : t = mkB (seq + 1) (mkT q ll) := by simpa using hm
         subst hm2;have ho : Vt (vw x.2 ((seq + 1) % 2)) (seq + 1) := by rw [w1 _ (by omega)]; exact h.oth
         rcases ho.torn (t := mkT q ll) h.top (by rw [xL]; omega) hb with e2 | e2
         · exact .inl (same (by rw [e]; exact e2))
         · refine .inr ⟨hfr _ hsc (by rw [e, e2]) ?_ ?_, whole _ fun k hk => tn k (by omega)⟩
           · rw [tn _ (by omega), w1 _ (by omega)]
           · rw [tn _ (by omega), w1 _ (by omega)]
   · obtain ⟨c1, c2⟩ := S1.live hfu;have c3 := S2.live (by rw [c2]; exact hfu);exact ⟨c3.1, c3.2.trans c2⟩
 · have er : r = x := by rw [hr]; exact xX N _ _ (by omega)
   rw [er];refine ⟨S1.sd, .inr ⟨a1, a2, fun kp hkp => .inl ?_⟩, fun hfu => absurd (S1.live hfu).1 (by omega)⟩;have T := a3 kp hkp;exact ⟨h.ended (Uq S1.sd kp) (fun k hk => T.ne (lne k (by omega))) fun c => by rw [T.ne (lne _ (by omega))]; exact h.end_ c, dkeep _ fun k hk _ => T.ne hk⟩
end
end Go.Proofs.YthijgebmoadgkaaGreatDoor
