
/- A slice of the reference's slots appended to another; the contract of the law's leftRight. Conditions: slots that stand in memory. -/
import Derived.Test.YteepggjbgdjchaaDoorSlrD
import Derived.Test.YteepggjbgdjchaaDoorSloK
import Derived.Laws.OwnMore
namespace Go.Proofs.YteepggjbgdjchaaDoor
open Go.ChangeShapes Go.WideShapes Go.ChangeAt Go.RowKit
set_option linter.unusedVariables false
set_option linter.unusedSimpArgs false

/-- the reference's slots, in a slice of one's own or another's -/
abbrev RT_ (w : World) (B : Nat) (v : Value) (L : List Sl) : Prop := TRow 38 w B v L
theorem app_slots (w : World) (ty : TypeId) (B : Nat) (d v : Value) (D L : List Sl) (hB : B ≤ w.heap.size) (hd : RT_ w B d D) (hv : RT_ w 0 v L) (hn : D.length + L.length ≤ 100000) :
    ∃ v' w', (Builtin.append_ #[36, 36] ty #[d, v]).run Tryd.prog w = .ok v' w' ∧ RT_ w' B v' (D ++ L) ∧ w.grownBy w' d.ownBlock := by
  obtain ⟨i0, hi0, hz0, hz1, hz2⟩ := info_parts info_rslot
  rcases hv.2 with ⟨rfl, h0⟩ | ⟨g, cap, cur, rfl, r1, r2, r3, r4, r5, r6⟩
  · obtain rfl : L = [] := List.length_eq_zero_iff.1 h0
    have := run_append_owned_none (P := Tryd.prog) w B 36 ty 38 i0 2 Tryd.underlying36 hi0 d D.length (cl D) hd
    exact ⟨d, w, this, by rw [List.append_nil]; exact hd, rfl, rfl, rfl, Nat.le_refl _, fun _ _ _ => rfl⟩
  · have hc := World.ownsRow.cells hv (g := g) rfl
    obtain ⟨v', w', h1, h2, h3, _, _⟩ := run_append_own_at (P := Tryd.prog) w B 36 ty 38 i0 (.agg #[.bool false, .string ⟨#[]⟩]) 2 24 Tryd.underlying36 hi0 hz0 hz1 hz2 rfl (by decide) d D.length (cl D) hd ⟨g, 0, none⟩ L.length cap (cl L) (cl_len L) hc (by
      intro u hu
      obtain ⟨s, _, hs⟩ := List.mem_flatMap.1 hu
      simp at hs
      rcases hs with rfl | rfl <;> rfl) (by unfold maxLen; omega) (by omega) hB
    exact ⟨v', w', h1, by unfold RT_ TRow; rw [List.length_append, cl_app]; exact h2, h3⟩
theorem wpList_app_slots {ops : Array Oper} {rest : List Oper} {o : Oper} {a : Act} {w : World} {Q : Exit → Act → World → Prop} (hgd : o.guard = none) (s x : Operand)
    (ho : o.op = .call { callee := .builtin .append, args := #[s, x], argTypes := #[36, 36] })
    (B : Nat) (d v : Value) (D L : List Sl) (hs : a.eval s = d) (hx : a.eval x = v) (hB : B ≤ w.heap.size) (hd : RT_ w B d D) (hv : RT_ w 0 v L) (hn : D.length + L.length ≤ 100000)
    (h : ∀ v' w', RT_ w' B v' (D ++ L) → w.grownBy w' d.ownBlock → wpList Tryd.prog ops Q rest (a.put o.dst v') w') : wpList Tryd.prog ops Q (o :: rest) a w := by
  refine wpList_plain hgd fun K hK => ?_
  obtain ⟨v', w', hr, h2, h3⟩ := app_slots w o.type B d v D L hB hd hv hn
  unfold Oper.wp execOp
  simp only [ho, resolve, invoke, builtin, Sem.run_bind, Sem.run_pure, Result.andThen_ok, List.map_toArray, List.map_cons, List.map_nil, hs, hx, hr]
  exact hK _ _ (h v' w' h2 h3)
theorem RT_.low {w : World} {B : Nat} {v : Value} {L : List Sl} (h : RT_ w B v L) : RT_ w 0 v L := by
  refine ⟨h.1, ?_⟩
  rcases h.2 with h2 | ⟨g, cap, cur, rfl, r1, r2⟩
  · exact .inl h2
  · exact .inr ⟨g, cap, cur, rfl, Nat.zero_le _, r2⟩
theorem RT_.one (w : World) (x : Sl) : RT_ (w.alloc (.cells #[.bool x.1, .string x.2] 38)) 0 (.slice (some ⟨w.heap.size, 0, none⟩) 1 1) [x] :=
  World.ownsRow_lit w #[.bool x.1, .string x.2] 1 (Nat.zero_le _) (by decide) rfl
theorem RT_.void (w : World) {B : Nat} (hB : B ≤ w.heap.size) : RT_ (w.alloc (.cells #[] 38)) B (.slice (some ⟨w.heap.size, 0, none⟩) 0 0) [] :=
  World.ownsRow_lit w #[] 0 hB (by decide) rfl
/-- a slot that is stored -/
theorem RT_.put {w : World} {B b n cap : Nat} {L : List Sl} (h : RT_ w B (.slice (some ⟨b, 0, none⟩) n cap) L) (hn : n = L.length) (i : Nat) (hi : i < L.length) (u : Bool) (r : ByteArray) : RT_ ((w.setCell ⟨b, i * 2, none⟩ (.bool u)).setCell ⟨b, i * 2 + 1, none⟩ (.string r)) B (.slice (some ⟨b, 0, none⟩) n cap) (L.set i (u, r)) := by
  subst hn
  have h1 := (World.ownsRow.stored h (i * 2) (.bool u)).1
  have h2 := (World.ownsRow.stored h1 (i * 2 + 1) (.string r)).1
  rw [cl_set L i hi (u, r)] at h2
  unfold RT_ TRow
  rw [List.length_set]
  exact h2
theorem set_rec (L : List Sl) (i : Nat) (hi : i < L.length) (r : ByteArray) : (cl L).set (i * 2 + 1) (.string r) = cl (L.set i ((L[i]'hi).1, r)) := by
  rw [← cl_set L i hi ((L[i]'hi).1, r)]
  congr 1
  have hl : i * 2 < (cl L).length := by rw [cl_len]; omega
  have c := (cl_at L i hi).1
  rw [List.getElem?_eq_getElem hl] at c
  injection c with c
  rw [← c, List.set_getElem_self hl]
theorem RT_.putR {w : World} {B b n cap : Nat} {L : List Sl} (h : RT_ w B (.slice (some ⟨b, 0, none⟩) n cap) L) (hn : n = L.length) (i : Nat) (hi : i < L.length) (r : ByteArray) : RT_ (w.setCell ⟨b, i * 2 + 1, none⟩ (.string r)) B (.slice (some ⟨b, 0, none⟩) n cap) (L.set i ((L[i]'hi).1, r)) := by
  subst hn
  have h2 := (World.ownsRow.stored h (i * 2 + 1) (.string r)).1
  rw [set_rec L i hi r] at h2
  unfold RT_ TRow
  rw [List.length_set]
  exact h2
theorem RT_.cell {w : World} {B b n cap : Nat} {L : List Sl} (h : RT_ w B (.slice (some ⟨b, 0, none⟩) n cap) L) (hn : n = L.length) (i : Nat) (hi : i < L.length) : w.cell? ⟨b, i * 2, none⟩ = some (.bool (L[i]'hi).1) ∧ w.cell? ⟨b, i * 2 + 1, none⟩ = some (.string (L[i]'hi).2) ∧ b < w.heap.size ∧ B ≤ b ∧ ∀ j, w.frozen? ⟨b, j, none⟩ = false := by
  subst hn
  have c := cl_at L i hi
  exact ⟨(World.ownsRow.cellAt h _ (by omega)).trans c.1, (World.ownsRow.cellAt h _ (by omega)).trans c.2, (World.ownsRow.lt h b rfl).2, (World.ownsRow.lt h b rfl).1, World.ownsRow.frozenAt h⟩
/-- the first slot that isn't used -/
theorem vk_of {L : List Sl} {k : Nat} (hk : k ≤ L.length) (h1 : ∀ j (hj : j < L.length), j < k → isE (L[j]'hj) = false) (h2 : ∀ h : k < L.length, isE (L[k]'h) = true) : vk L = k := by
  unfold vk
  by_cases h : k < L.length
  · rw [List.findIdx_eq h]
    exact ⟨h2 h, fun j hj => h1 j (Nat.lt_trans hj h) hj⟩
  · have e : k = L.length := by omega
    rw [e]
    refine List.findIdx_eq_length_of_false fun x hx => ?_
    obtain ⟨j, hj, rfl⟩ := List.mem_iff_getElem.1 hx
    exact h1 j hj (by omega)
theorem adL_zero {L : List Sl} (h : Fit L) (k : Nat) : pk (adL L (zB k)) = if 496 < sz (vl L) + k then (⟨#[]⟩, 8) else (rmB (adL L (zB k)), 0) := by rw [adL_pk h, zB_size]
set_option maxRecDepth 10000 in
set_option maxHeartbeats 2000000 in
theorem leftright_any (s : ByteArray) (v : Value) (L : List Sl) (w : World) (hs : s.size ≤ 140737488355328) (hr : rd s = some L) (hv : RT_ w 0 v L) : Calls Tryd.prog 20 #[.string s, v] w fun e w' => e = .returned (.bool true) ∧ Below w.heap.size w w' := by
  have hf : Fit L := (rd_sound s L hr).1
  obtain ⟨hlz, hrz, hsz⟩ := rd_len hr
  have HL := Lib.hid (fun W => left_slot s W hs)
  have elf : lf s = max (496 - (sz (vl L) : Int)) (-1) := by unfold lf; rw [hr]
  have hvl := vl_len L
  have hzv : 4 ≤ sz (vl L) ∧ sz (vl L) ≤ 498 := by
    have h1 := vk_lt L
    have h2 : sz (vl L) = 2 + 2 * (vl L).length + (recs (vl L)).length := rfl
    refine ⟨by omega, ?_⟩
    rcases vk_cases L with ⟨_, e2, _⟩ | ⟨_, e2, _⟩
    · rw [e2, sz_snoc]; have : emS.2.size = 0 := rfl; omega
    · rw [e2]; omega
  obtain ⟨Z, hZ⟩ : ∃ Z, Z = sz (vl L) := ⟨_, rfl⟩
  have ADZ := Lib.hid (fun k => adL_zero hf k)
  rw [elf] at HL
  rw [← hZ] at HL hzv ADZ
  obtain ⟨N, hN⟩ : ∃ N : Int, N = max (496 - (Z : Int)) (-1) := ⟨_, rfl⟩
  rw [← hN] at HL
  have hN1 : N ≤ 492 ∧ -1 ≤ N := by omega
  have hN' := Lib.hid hN
  have hIn := hv.in_ (fun x hx => by have := hrz x hx; unfold maxLen; omega)
  obtain ⟨va, vc, rfl, hc1, hc2, -, hcl⟩ := hIn.open_
  obtain ⟨n, hn⟩ : ∃ n, n = L.length := ⟨_, rfl⟩
  rw [← hn] at hv hc1 hlz ⊢
  have hn' := Lib.hid hn
  have HV := Lib.hid hv
  have HOK := Lib.hid hf.ok
  have VKO := Lib.hid (fun (k : Nat) hk h1 h2 => vk_of (L := L) (k := k) hk h1 h2)
  clear elf hZ hIn hn hv hN
  go_enter Tryd.func20, Tryd.ntmps20
  go_upto_region 3 with (go_at_call 14; refine (HL.out _).mono ?_; rintro e v1 ⟨rfl, hb1⟩; have B1 := Lib.hid hb1; clear hb1)
  go_loopw [6] (fun i wr => ∃ k : Nat, k ≤ n ∧ i = .int .i64 (k : Int) ∧ Hid (∀ j (hj : j < L.length), j < k → isE (L[j]'hj) = false) ∧ Hid (Below w.heap.size w wr)) (fun i wr => n - (intOf i).toNat)
  case atStart => exact ⟨0, by omega, rfl, Lib.hid (fun j _ hj => by omega), B1⟩
  case round =>
    clear B1
    obtain ⟨k, hk, rfl, hA, hB⟩ := hrel
    have NEXT : Hid (k = vk L → ∀ W, Below w.heap.size w W → True) := Lib.hid fun _ _ _ => trivial
    by_cases hlt : k < n
    · have hkL : k < L.length := by have := hn'.out; omega
      obtain ⟨b, o, rfl, hb, c1, c2, -⟩ := hcl k hkL
      have okx := HOK.out _ (List.getElem_mem hkL)
      obtain ⟨x, hx⟩ : ∃ x, x = L[k]'hkL := ⟨_, rfl⟩
      rw [← hx] at c1 c2 okx
      have hx' := Lib.hid hx
      clear hx
      obtain ⟨u, r⟩ := x
      simp only at c1 c2
      replace c1 := keep hB.out c1
      cases u with
      | true =>
        clear okx
        go_wp2
        go_roundw
        case rel => exact ⟨k + 1, by omega, by go_num, Lib.hid (fun j hj hj2 => by
          by_cases e : j = k
          · subst e; rw [← hx'.out]; rfl
          · exact hA.out j hj (by omega)), hB⟩
        case measure => simp [intOf]; omega
      | false =>
        have hvk : Hid (vk L = k) := Lib.hid (VKO.out k (by have := hn'.out; omega) hA.out (fun h => by rw [← hx'.out, okS_no _ okx rfl]; rfl))
        clear okx c2
        have HVW := Lib.hid (TRow.below HV.out (then_ hB.out ((Below.refl wr.heap.size wr).alloc (Nat.le_refl _) (.cells #[] 38)) hB.out.size))
        have zz := hB.out.size
        have hLn : L.length ≤ 247 := by have := hn'.out; omega
        go_upto_region 6 with (at_builtin; refine wpList_app_slots rfl _ _ rfl w.heap.size _ _ [] L rfl rfl (by simp; omega) (RT_.void wr zz) HVW.out (by simp; omega) ?_; intro v5 w5 h5 hg5)
        rw [List.nil_append] at h5
        have B5 := Lib.hid ((hB.out.alloc zz (.cells #[] 38)).grown hg5 (by simp; omega) (fun g hg => by have hg2 : some wr.heap.size = some g := hg; injection hg2 with e; omega))
        clear hg5 HVW
        obtain ⟨a5, c5, rfl, -, -⟩ := h5.shape
        have hln : L.length = n := hn'.out.symm
        rw [hln] at h5 ⊢
        have hvl' : vl L = L := by rcases vk_cases L with ⟨e1, _, _⟩ | ⟨_, e2, _⟩; (have := hvk.out; omega); exact e2
        obtain ⟨g, rfl⟩ : ∃ g, a5 = some ⟨g, 0, none⟩ := by rcases h5.2 with ⟨e, e2⟩ | ⟨g, cap, cur, e, _⟩; (exfalso; omega); (injection e with e1 _ _; exact ⟨g, e1⟩)
        have hT := Lib.hid h5
        have BT := Lib.hid B5.out
        have wT := Lib.hid (Below.refl w5.heap.size w5)
        have VE : Hid (∀ x, L.set k x = (vl L).set (vk L) x) := Lib.hid fun x => by rw [hvl', hvk.out]
        have hkV : k < L.length := by omega
        have qk : ¬ ((k : Int) = (n : Int)) := by omega
        clear h5 B5 hln hvl'
        have hkn : (k : Int) < ((n : Nat) : Int) := by omega
        have nVl : n = L.length := hn'.out
        obtain ⟨d1, d2, d3, d4, d5⟩ := hT.out.cell nVl k hkV
        obtain ⟨M1, hM1⟩ : ∃ M1 : Nat, (M1 : Int) = max N 0 := ⟨(max N 0).toNat, by omega⟩
        obtain ⟨M2, hM2⟩ : ∃ M2 : Nat, (M2 : Int) = N + 1 := ⟨(N + 1).toNat, by omega⟩
        have HMK1 := fun W => make_bytes M1 (by omega) W
        have HMK2 := fun W => make_bytes M2 (by omega) W
        rw [hM1] at HMK1
        rw [hM2] at HMK2
        have HZ1 := fun W => zeros_text M1 M1 W
        have HZ2 := fun W => zeros_text M2 M2 W
        obtain ⟨ZA, hZA⟩ : ∃ ZA, ZA = zB M1 := ⟨_, rfl⟩
        obtain ⟨ZC, hZC⟩ : ∃ ZC, ZC = zB M2 := ⟨_, rfl⟩
        rw [← hZA] at HZ1
        rw [← hZC] at HZ2
        have zA : ZA.size ≤ 1000 := by rw [hZA, zB_size]; omega
        have zC : ZC.size ≤ 1000 := by rw [hZC, zB_size]; omega
        have szs : ∀ (r : ByteArray), r.size ≤ 1000 → ∀ x ∈ (vl L).set (vk L) (true, r), x.2.size ≤ maxLen := fun r hr2 x hx => by have := set_size (c := 1000) (fun y hy => by have := vl_size L 496 hrz y hy; omega) hr2 x hx; unfold maxLen; omega
        have HP1 : Hid (∀ W, RT_ W w.heap.size (.slice (some ⟨g, 0, none⟩) (n) c5) (L.set k (true, ZA)) → Calls Tryd.prog 18 #[.slice (some ⟨g, 0, none⟩) (n) c5] W fun e w' => ∃ p, e = .returned (.tuple #[.string p, .int .i64 (if 0 ≤ N then 0 else 8)]) ∧ Below W.heap.size W w') := Lib.hid fun W h => by
          rw [VE.out] at h
          refine (rpack_any _ _ W (h.in_ (szs ZA zA))).mono ?_
          rintro e w' ⟨h1, h2⟩
          have e9 := ADZ.out M1
          rw [show adL L (zB M1) = (vl L).set (vk L) (true, ZA) by rw [hZA]; rfl] at e9
          rw [e9] at h1
          by_cases h0 : 0 ≤ N
          · rw [if_neg (by have := hN'.out; omega)] at h1
            exact ⟨_, by rw [h1, if_pos h0]; rfl, h2⟩
          · rw [if_pos (by have := hN'.out; omega)] at h1
            exact ⟨_, by rw [h1, if_neg h0]; rfl, h2⟩
        have HP2 : Hid (∀ W, RT_ W w.heap.size (.slice (some ⟨g, 0, none⟩) (n) c5) (L.set k (true, ZC)) → Calls Tryd.prog 18 #[.slice (some ⟨g, 0, none⟩) (n) c5] W fun e w' => ∃ p, e = .returned (.tuple #[.string p, .int .i64 8]) ∧ Below W.heap.size W w') := Lib.hid fun W h => by
          rw [VE.out] at h
          refine (rpack_any _ _ W (h.in_ (szs ZC zC))).mono ?_
          rintro e w' ⟨h1, h2⟩
          have e9 := ADZ.out M2
          rw [show adL L (zB M2) = (vl L).set (vk L) (true, ZC) by rw [hZC]; rfl] at e9
          rw [e9, if_pos (by have := hN'.out; omega)] at h1
          exact ⟨_, h1, h2⟩
        have NVL := Lib.hid nVl
        clear nVl
        replace HMK1 := Lib.hid HMK1
        replace HMK2 := Lib.hid HMK2
        replace HZ1 := Lib.hid HZ1
        replace HZ2 := Lib.hid HZ2
        replace hM1 := Lib.hid hM1
        replace hM2 := Lib.hid hM2
        clear szs hZA hZC
        have hmk1 := HMK1.out
        have hz1 := HZ1.out
        go_upto_region 9 with fail
        go_name_world W7 hW7
        have hHT := TRow.below (RT_.put hT.out NVL.out k hkV true ZA) ((Below.refl _ _).alloc (Nat.le_refl _) (.cells (madeCells #[.int .u8 0] M1) 5))
        have hB0 := (BT.out.setCell (p := ⟨g, k * 2, none⟩) d4 (.bool true)).setCell (p := ⟨g, k * 2 + 1, none⟩) d4 (.string ZA)
        have hBT := hB0.alloc hB0.size (.cells (madeCells #[.int .u8 0] M1) 5)
        clear hB0
        rw [hW7] at hHT hBT
        have T7 := Lib.hid hHT
        have B7 := Lib.hid hBT
        clear hW7 hHT hBT d1 d2 d3 d5 hmk1 hz1
        go_upto_region 10 with (go_at_call 18; refine (HP1.out _ T7.out).mono ?_; rintro e w8 ⟨p8, rfl, hb8⟩; have T8 := Lib.hid (TRow.below T7.out hb8); have B8 := Lib.hid (then_ B7.out hb8 B7.out.size); clear hb8)
        have hkV2 : k < (L.set k (true, ZA)).length := by rw [List.length_set]; exact hkV
        have NV2 : n = (L.set k (true, ZA)).length := by rw [List.length_set]; exact NVL.out
        have NVL2 := Lib.hid NV2
        clear NV2
        obtain ⟨d1, d2, d3, d6, d5⟩ := RT_.cell T8.out NVL2.out k hkV2
        have e10 : (L.set k (true, ZA)).set k (((L.set k (true, ZA))[k]'hkV2).1, ZC) = L.set k (true, ZC) := by rw [List.set_set, List.getElem_set_self]
        have E10 := Lib.hid e10
        clear e10
        rw [List.getElem_set_self] at d1 d2
        have hmk2 := HMK2.out
        have hz2 := HZ2.out
        have q1 : IntKind.i64.wrap (N + 1) = N + 1 := by rw [IntKind.wrap_i64]; omega
        go_upto_region 11 with fail
        go_name_world W9 hW9
        have hHT := TRow.below (RT_.putR T8.out NVL2.out k hkV2 ZC) ((Below.refl _ _).alloc (Nat.le_refl _) (.cells (madeCells #[.int .u8 0] M2) 5))
        have hB0 := B8.out.setCell (p := ⟨g, k * 2 + 1, none⟩) d4 (.string ZC)
        have hBT := hB0.alloc hB0.size (.cells (madeCells #[.int .u8 0] M2) 5)
        clear hB0
        rw [E10.out] at hHT
        rw [hW9] at hHT hBT
        have T9 := Lib.hid hHT
        have B9 := Lib.hid hBT
        clear hW9 hHT hBT d1 d2 d3 d5 d6 hmk2 hz2
        go_upto_region 12 with (go_at_call 18; refine (HP2.out _ T9.out).mono ?_; rintro e w10 ⟨p10, rfl, hb10⟩; have B10 := Lib.hid (then_ B9.out hb10 B9.out.size); clear hb10)
        obtain ⟨hN2, hN3⟩ := hN1
        by_cases h0 : 0 ≤ N
        · rw [if_pos h0]
          go_wp2
          go_ret
          exact ⟨rfl, B10.out⟩
        · rw [if_neg h0]
          go_wp2
          go_ret
          exact ⟨rfl, B10.out⟩
    · obtain rfl : k = n := by omega
      have hvk : Hid (vk L = k) := Lib.hid (VKO.out k (by have := hn'.out; omega) hA.out (fun h => by have := hn'.out; omega))
      have HVW := Lib.hid (TRow.below HV.out (then_ hB.out ((Below.refl wr.heap.size wr).alloc (Nat.le_refl _) (.cells #[] 38)) hB.out.size))
      have zz := hB.out.size
      have hLn : L.length ≤ 247 := by have := hn'.out; omega
      go_upto_region 6 with (at_builtin; refine wpList_app_slots rfl _ _ rfl w.heap.size _ _ [] L rfl rfl (by simp; omega) (RT_.void wr zz) HVW.out (by simp; omega) ?_; intro v5 w5 h5 hg5)
      rw [List.nil_append] at h5
      have B5 := Lib.hid ((hB.out.alloc zz (.cells #[] 38)).grown hg5 (by simp; omega) (fun g hg => by have hg2 : some wr.heap.size = some g := hg; injection hg2 with e; omega))
      clear hg5 HVW
      obtain ⟨a5, c5, rfl, -, -⟩ := h5.shape
      have hln : L.length = k := hn'.out.symm
      rw [hln] at h5 ⊢
      have hvl' : vl L = L ++ [emS] := by rcases vk_cases L with ⟨_, e2, _⟩ | ⟨e1, _, _⟩; exact e2; (have := hvk.out; omega)
      have H5 := Lib.hid h5
      clear h5
      go_upto_region 8 with (at_builtin; refine wpList_app_slots rfl _ _ rfl w.heap.size _ _ L [emS] rfl rfl (by simp; have := B5.out.size; omega) ((TRow.below H5.out ((Below.refl w5.heap.size w5).alloc (Nat.le_refl _) (.cells #[.bool false, .string ⟨#[]⟩] 38)))) (RT_.one w5 emS) (by simp; omega) ?_; intro v6 w6 h6 hg6)
      have B6 := Lib.hid ((B5.out.alloc B5.out.size (.cells #[.bool false, .string ⟨#[]⟩] 38)).grown hg6 (by simp; have := B5.out.size; omega) (fun g hg => (World.ownsRow.lt H5.out g hg).1))
      obtain ⟨a6, c6, rfl, -, -⟩ := h6.shape
      have hln6 : (L ++ [emS]).length = k + 1 := by simp; omega
      rw [hln6] at h6 ⊢
      obtain ⟨g, rfl⟩ : ∃ g, a6 = some ⟨g, 0, none⟩ := by rcases h6.2 with ⟨e, e2⟩ | ⟨g, cap, cur, e, _⟩; (exfalso; omega); (injection e with e1 _ _; exact ⟨g, e1⟩)
      have hT := Lib.hid h6
      have BT := Lib.hid B6.out
      have VE : Hid (∀ x, (L ++ [emS]).set k x = (vl L).set (vk L) x) := Lib.hid fun x => by rw [hvl', hvk.out]
      have hkV : k < (L ++ [emS]).length := by omega
      clear h6 hg6 B6 B5 hln hvl' H5 hln6
      have hkn : (k : Int) < ((k + 1 : Nat) : Int) := by omega
      have nVl : k + 1 = (L ++ [emS]).length := (by have := hn'.out; simp; omega)
      obtain ⟨d1, d2, d3, d4, d5⟩ := hT.out.cell nVl k hkV
      obtain ⟨M1, hM1⟩ : ∃ M1 : Nat, (M1 : Int) = max N 0 := ⟨(max N 0).toNat, by omega⟩
      obtain ⟨M2, hM2⟩ : ∃ M2 : Nat, (M2 : Int) = N + 1 := ⟨(N + 1).toNat, by omega⟩
      have HMK1 := fun W => make_bytes M1 (by omega) W
      have HMK2 := fun W => make_bytes M2 (by omega) W
      rw [hM1] at HMK1
      rw [hM2] at HMK2
      have HZ1 := fun W => zeros_text M1 M1 W
      have HZ2 := fun W => zeros_text M2 M2 W
      obtain ⟨ZA, hZA⟩ : ∃ ZA, ZA = zB M1 := ⟨_, rfl⟩
      obtain ⟨ZC, hZC⟩ : ∃ ZC, ZC = zB M2 := ⟨_, rfl⟩
      rw [← hZA] at HZ1
      rw [← hZC] at HZ2
      have zA : ZA.size ≤ 1000 := by rw [hZA, zB_size]; omega
      have zC : ZC.size ≤ 1000 := by rw [hZC, zB_size]; omega
      have szs : ∀ (r : ByteArray), r.size ≤ 1000 → ∀ x ∈ (vl L).set (vk L) (true, r), x.2.size ≤ maxLen := fun r hr2 x hx => by have := set_size (c := 1000) (fun y hy => by have := vl_size L 496 hrz y hy; omega) hr2 x hx; unfold maxLen; omega
      have HP1 : Hid (∀ W, RT_ W w.heap.size (.slice (some ⟨g, 0, none⟩) (k + 1) c6) ((L ++ [emS]).set k (true, ZA)) → Calls Tryd.prog 18 #[.slice (some ⟨g, 0, none⟩) (k + 1) c6] W fun e w' => ∃ p, e = .returned (.tuple #[.string p, .int .i64 (if 0 ≤ N then 0 else 8)]) ∧ Below W.heap.size W w') := Lib.hid fun W h => by
        rw [VE.out] at h
        refine (rpack_any _ _ W (h.in_ (szs ZA zA))).mono ?_
        rintro e w' ⟨h1, h2⟩
        have e9 := ADZ.out M1
        rw [show adL L (zB M1) = (vl L).set (vk L) (true, ZA) by rw [hZA]; rfl] at e9
        rw [e9] at h1
        by_cases h0 : 0 ≤ N
        · rw [if_neg (by have := hN'.out; omega)] at h1
          exact ⟨_, by rw [h1, if_pos h0]; rfl, h2⟩
        · rw [if_pos (by have := hN'.out; omega)] at h1
          exact ⟨_, by rw [h1, if_neg h0]; rfl, h2⟩
      have HP2 : Hid (∀ W, RT_ W w.heap.size (.slice (some ⟨g, 0, none⟩) (k + 1) c6) ((L ++ [emS]).set k (true, ZC)) → Calls Tryd.prog 18 #[.slice (some ⟨g, 0, none⟩) (k + 1) c6] W fun e w' => ∃ p, e = .returned (.tuple #[.string p, .int .i64 8]) ∧ Below W.heap.size W w') := Lib.hid fun W h => by
        rw [VE.out] at h
        refine (rpack_any _ _ W (h.in_ (szs ZC zC))).mono ?_
        rintro e w' ⟨h1, h2⟩
        have e9 := ADZ.out M2
        rw [show adL L (zB M2) = (vl L).set (vk L) (true, ZC) by rw [hZC]; rfl] at e9
        rw [e9, if_pos (by have := hN'.out; omega)] at h1
        exact ⟨_, h1, h2⟩
      have NVL := Lib.hid nVl
      clear nVl
      replace HMK1 := Lib.hid HMK1
      replace HMK2 := Lib.hid HMK2
      replace HZ1 := Lib.hid HZ1
      replace HZ2 := Lib.hid HZ2
      replace hM1 := Lib.hid hM1
      replace hM2 := Lib.hid hM2
      clear szs hZA hZC
      have hmk1 := HMK1.out
      have hz1 := HZ1.out
      go_upto_region 9 with fail
      go_name_world W7 hW7
      have hHT := TRow.below (RT_.put hT.out NVL.out k hkV true ZA) ((Below.refl _ _).alloc (Nat.le_refl _) (.cells (madeCells #[.int .u8 0] M1) 5))
      have hB0 := (BT.out.setCell (p := ⟨g, k * 2, none⟩) d4 (.bool true)).setCell (p := ⟨g, k * 2 + 1, none⟩) d4 (.string ZA)
      have hBT := hB0.alloc hB0.size (.cells (madeCells #[.int .u8 0] M1) 5)
      clear hB0
      rw [hW7] at hHT hBT
      have T7 := Lib.hid hHT
      have B7 := Lib.hid hBT
      clear hW7 hHT hBT d1 d2 d3 d5 hmk1 hz1
      go_upto_region 10 with (go_at_call 18; refine (HP1.out _ T7.out).mono ?_; rintro e w8 ⟨p8, rfl, hb8⟩; have T8 := Lib.hid (TRow.below T7.out hb8); have B8 := Lib.hid (then_ B7.out hb8 B7.out.size); clear hb8)
      have hkV2 : k < ((L ++ [emS]).set k (true, ZA)).length := by rw [List.length_set]; exact hkV
      have NV2 : k + 1 = ((L ++ [emS]).set k (true, ZA)).length := by rw [List.length_set]; exact NVL.out
      have NVL2 := Lib.hid NV2
      clear NV2
      obtain ⟨d1, d2, d3, d6, d5⟩ := RT_.cell T8.out NVL2.out k hkV2
      have e10 : ((L ++ [emS]).set k (true, ZA)).set k ((((L ++ [emS]).set k (true, ZA))[k]'hkV2).1, ZC) = (L ++ [emS]).set k (true, ZC) := by rw [List.set_set, List.getElem_set_self]
      have E10 := Lib.hid e10
      clear e10
      rw [List.getElem_set_self] at d1 d2
      have hmk2 := HMK2.out
      have hz2 := HZ2.out
      have q1 : IntKind.i64.wrap (N + 1) = N + 1 := by rw [IntKind.wrap_i64]; omega
      go_upto_region 11 with fail
      go_name_world W9 hW9
      have hHT := TRow.below (RT_.putR T8.out NVL2.out k hkV2 ZC) ((Below.refl _ _).alloc (Nat.le_refl _) (.cells (madeCells #[.int .u8 0] M2) 5))
      have hB0 := B8.out.setCell (p := ⟨g, k * 2 + 1, none⟩) d4 (.string ZC)
      have hBT := hB0.alloc hB0.size (.cells (madeCells #[.int .u8 0] M2) 5)
      clear hB0
      rw [E10.out] at hHT
      rw [hW9] at hHT hBT
      have T9 := Lib.hid hHT
      have B9 := Lib.hid hBT
      clear hW9 hHT hBT d1 d2 d3 d5 d6 hmk2 hz2
      go_upto_region 12 with (go_at_call 18; refine (HP2.out _ T9.out).mono ?_; rintro e w10 ⟨p10, rfl, hb10⟩; have B10 := Lib.hid (then_ B9.out hb10 B9.out.size); clear hb10)
      obtain ⟨hN2, hN3⟩ := hN1
      by_cases h0 : 0 ≤ N
      · rw [if_pos h0]
        go_wp2
        go_ret
        exact ⟨rfl, B10.out⟩
      · rw [if_neg h0]
        go_wp2
        go_ret
        exact ⟨rfl, B10.out⟩
end Go.Proofs.YteepggjbgdjchaaDoor
