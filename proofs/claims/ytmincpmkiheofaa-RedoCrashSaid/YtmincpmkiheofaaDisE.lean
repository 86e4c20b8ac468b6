
/- The contract of a disk's settle: of each write as many bytes as a function tells become sure. Conditions: those that each theorem names. -/
import Derived.Test.YtmincpmkiheofaaDisD
namespace Go.Proofs.Ytmincpmkiheofaa
open Go.ChangeShapes Go.WideShapes Go.ChangeAt Go.RowKit
set_option linter.unusedVariables false
set_option linter.unusedSimpArgs false

/-- the cells of a text -/
def bcells (u : ByteArray) : List Value := u.data.toList.map fun x => .int .u8 (x.toNat : Int)
theorem run_copy_str (P : Program) (w : World) (dT sT ty elem : TypeId) (b o dLen dCap : Nat) (u : ByteArray) (L : List UInt8) (h : BytesAt w b L) (hn : u.size ≤ dLen) (hfit : o + u.size ≤ L.length)
    (hu : P.underlying dT = some (.slice elem)) (hs : (P.info? elem).map (·.size) = some 1) :
    (Builtin.copy_ #[dT, sT] ty #[.slice (some ⟨b, o, none⟩) dLen dCap, .string u]).run P w = .ok (goInt u.size) (w.setCells b o (bcells u)) := by
  have hl : (bcells u).length = u.size := by simp [bcells]
  have hst := run_storeCells_cells (P := P) b o (bcells u) 0 w (fun j hj => by rw [Nat.add_zero, h.cell (o + j) (by omega)]; rfl) (fun j hj => by rw [Nat.add_zero]; exact h.free (o + j) (by omega))
    (fun v hv => by obtain ⟨x, _, rfl⟩ := List.mem_map.1 hv; rfl)
  have he : (u.extract 0 u.size) = u := by simp
  have hm : Nat.min u.size dLen = u.size := Nat.min_eq_left hn
  have hc : List.take u.size (List.map (fun b : UInt8 => Value.int .u8 (b.toNat : Int)) u.data.toList) = bcells u := by rw [List.take_of_length_le (by simp)]; rfl
  cases hq : P.info? elem with
  | none => simp [hq] at hs
  | some i =>
    have hi : i.size = 1 := by simpa [hq] using hs
    simp [Builtin.copy_, run_underlying hu, Builtin.lenOf, Builtin.firstCells, sizeOf, typeInfo, hq, hi, hm, he, hc, hst]
/-- a text laid over bytes -/
def putB (L : List UInt8) (o : Nat) (u : ByteArray) : List UInt8 := L.take o ++ u.data.toList ++ L.drop (o + u.data.toList.length)
theorem putB_len (L : List UInt8) (o : Nat) (u : ByteArray) (h : o + u.size ≤ L.length) : (putB L o u).length = L.length := by
  have : u.data.toList.length = u.size := rfl
  simp only [putB, List.length_append, List.length_take, List.length_drop]
  omega
/-- writes laid over bytes: of the one of number j the first kp j bytes -/
def settled (kp : Nat → Nat) : List (Nat × ByteArray) → Nat → List UInt8 → List UInt8
  | [], _, L => L
  | x :: l, j, L => settled kp l (j + 1) (putB L (x.1 * 64) (x.2.extract 0 (kp j)))
theorem settled_snoc (kp : Nat → Nat) (x : Nat × ByteArray) : ∀ (l : List (Nat × ByteArray)) (j : Nat) (L : List UInt8), settled kp (l ++ [x]) j L = putB (settled kp l j L) (x.1 * 64) (x.2.extract 0 (kp (j + l.length)))
  | [], j, L => rfl
  | y :: l, j, L => by
    have := settled_snoc kp x l (j + 1) (putB L (y.1 * 64) (y.2.extract 0 (kp j)))
    simp only [List.cons_append, settled, this, List.length_cons]
    rw [show j + 1 + l.length = j + (l.length + 1) by omega]
theorem settled_len (kp : Nat → Nat) (n : Nat) : ∀ (l : List (Nat × ByteArray)) (j : Nat) (L : List UInt8), L.length = n * 64 → (∀ x ∈ l, x.1 < n ∧ x.2.size = 64) → (settled kp l j L).length = n * 64
  | [], _, _, h, _ => h
  | x :: l, j, L, h, hx => by
    have h1 := hx x (by simp)
    refine settled_len kp n l (j + 1) _ ?_ fun y hy => hx y (by simp [hy])
    rw [putB_len _ _ _ ?_, h]
    have : (x.2.extract 0 (kp j)).size ≤ 64 := by rw [ByteArray.size_extract]; omega
    rw [h]; omega
section
variable {w : World} {d sb mb sc : Nat} {wv : Value} {n : Nat} {s : St}
/-- the sure bytes are written -/
theorem DiskAt.bytes (h : DiskAt w d sb mb sc wv n s) {w' : World} {L : List UInt8} (hL : BytesAt w' sb L) (hl : L.length = n * 64) (hc : Chg (· = sb) w w') : DiskAt w' d sb mb sc wv n { s with sure := L } := by
  obtain ⟨m1, m2, m3⟩ := h.ne3
  exact ⟨hc.own h.own (fun e => h.ne1 e.symm), h.cap, hL, ownsRow_keep h.wrs fun g hg => hc.block g (h.in_ (.inr (.inr (.inr hg)))) (h.ne2 g hg).2, h.map.keep (hc.block mb (h.in_ (.inr (.inr (.inl rfl)))) m2), h.ne1, h.ne2, ⟨h.ok.pos, h.ok.max, hl, h.ok.wr, h.ok.few, h.ok.fuse⟩⟩
theorem DiskAt.wcell (h : DiskAt w d sb mb sc wv n s) (k : Nat) (hk : k < s.wr.length) : ∃ g c, wv = .slice (some ⟨g, 0, none⟩) s.wr.length c ∧ w.cell? ⟨g, k * 2, none⟩ = some (.int .i64 ((s.wr[k]'hk).1 : Int)) ∧ w.cell? ⟨g, k * 2 + 1, none⟩ = some (.string (s.wr[k]'hk).2) := by
  rcases h.wrs.2 with ⟨rfl, h2⟩ | ⟨g, cap, cur, rfl, h1, h2, h3, h4, h5, h6⟩
  · omega
  · have e := wcells_at s.wr k hk
    have hc := fun j hj => World.ownsRow.cellAt h.wrs j hj
    exact ⟨g, cap, rfl, (hc (k * 2) (by omega)).trans e.1, (hc (k * 2 + 1) (by omega)).trans e.2⟩
set_option maxHeartbeats 1000000 in
theorem settle_any (h : DiskAt w d sb mb sc wv n s) (f : FuncId) (caps : Array Value) (kp : Nat → Nat) (hkp : ∀ j, j < s.wr.length → kp j ≤ 64)
    (HE : ∀ (args : Array Value) (W : World), (callFunc f args).run Try.prog W = .ok (.enter f args) W)
    (HK : ∀ W (j : Nat), j < s.wr.length → Chg (· = sb) w W → Calls Try.prog f (#[.int .i64 (j : Int)] ++ caps) W fun e w' => e = .returned (.int .i64 (kp j : Int)) ∧ W = w') :
    Calls Try.prog 31 #[.pointer (some ⟨d, 0, none⟩), .func (.func f) #[] caps] w fun e w' => e = .returned (.tuple #[]) ∧ DiskAt w' d sb mb sc (.slice none 0 0) n ⟨settled kp s.wr 0 s.sure, [], s.fuse, s.down⟩ ∧ Chg (fp d sb mb wv) w w' := by
  have hfew := h.ok.few
  obtain ⟨va, vc, hv, hv1, hv2⟩ := h.slice
  subst hv
  have H := Lib.hid h
  replace HK := Lib.hid HK
  replace hkp := Lib.hid hkp
  obtain ⟨o1, o2, o3⟩ := h.own.at_
  clear h
  obtain ⟨m, hm⟩ : ∃ m, m = s.wr.length := ⟨_, rfl⟩
  have M := Lib.hid hm
  rw [← hm] at o1 hfew hv1
  clear hm
  go_enter Try.func31, Try.ntmps31
  go_wp2
  clear o1 o2 o3
  go_loopw [11] (fun i wr => ∃ k : Nat, k ≤ m ∧ i = .int .i64 k ∧ Chg (· = sb) w wr ∧ BytesAt wr sb (settled kp (s.wr.take k) 0 s.sure)) (fun i wr => m - (intOf i).toNat)
  case atStart => exact ⟨0, by omega, rfl, Chg.refl _ _, H.out.sure⟩
  case round =>
    obtain ⟨k, hk, rfl, hc, hB⟩ := hrel
    by_cases hlt : k < m
    · obtain ⟨g, c, hg, w1, w2⟩ := H.out.wcell k (by rw [← M.out]; exact hlt)
      obtain rfl : va = some ⟨g, 0, none⟩ := by simpa using (Value.slice.inj hg).1
      obtain ⟨x, hx⟩ : ∃ x, x = s.wr[k]'(by rw [← M.out]; exact hlt) := ⟨_, rfl⟩
      rw [← hx] at w1 w2
      have X := Lib.hid hx
      have xm : x ∈ s.wr := hx ▸ List.getElem_mem _
      have hxw := H.out.ok.wr x xm
      obtain ⟨x1, x2⟩ := x
      clear hx hg xm
      simp only at w1 w2 hxw
      have hgs : g ≠ sb := (H.out.ne2 g rfl).2
      have w1 := hc.cell w1 hgs
      have w2 := hc.cell w2 hgs
      replace hc := Lib.hid hc
      replace hB := Lib.hid hB
      have hsl : (settled kp (s.wr.take k) 0 s.sure).length = n * 64 := settled_len kp n _ _ _ H.out.ok.len fun y hy => H.out.ok.wr y (List.mem_of_mem_take hy)
      replace hsl := Lib.hid hsl
      go_upto_region 3 with fail
      go_name_world W0 hW0e
      have O5 : Own W0 wr.heap.size 82 #[.int .i64 (x1 : Int), .string x2] := hW0e ▸ Own.made _ _ _
      have B0 : Below wr.heap.size wr W0 := hW0e ▸ (Below.refl _ _).alloc (Nat.le_refl _) _
      have G0 : Chg (· = sb) w W0 := hW0e ▸ hc.out.alloc _
      have zb : sb < wr.heap.size := hB.out.in_ (by have := H.out.ok.pos; rw [hsl.out]; omega)
      have B2 : BytesAt W0 sb (settled kp (s.wr.take k) 0 s.sure) := hB.out.keep (B0.block sb zb)
      have D0 : DiskAt W0 d sb mb sc _ n _ := H.out.bytes B2 hsl.out G0
      clear hW0e B0 hB w1 w2
      replace O5 := Lib.hid O5
      replace G0 := Lib.hid G0
      replace B2 := Lib.hid B2
      replace D0 := Lib.hid D0
      have HKk := HK.out W0.drew k (by rw [← M.out]; exact hlt) G0.out.drew
      have HSk := Lib.hid (sector_any (D0.out.below ((Below.refl _ _).drew)) x1 hxw.1)
      obtain ⟨q, hq⟩ : ∃ q, q = kp k := ⟨_, rfl⟩
      have hq64 : q ≤ 64 := hq ▸ hkp.out k (by rw [← M.out]; exact hlt)
      rw [← hq] at HKk
      replace HKk := Lib.hid HKk
      have QK := Lib.hid hq
      clear hq
      obtain ⟨hx1, hx2⟩ := hxw
      have us : (x2.extract 0 q).size = q := by rw [ByteArray.size_extract]; omega
      have HCP := fun ty => run_copy_str Try.prog W0.drew 62 9 ty 5 sb (x1 * 64) 64 (sc - x1 * 64) (x2.extract 0 q) _ (B2.out.keep rfl) (by omega) (by rw [us, hsl.out]; omega) Try.underlying62 (by kernel_rfl)
      have US := Lib.hid us
      clear us
      refine wp_region_seq (fun W => Own W wr.heap.size 82 #[.int .i64 (x1 : Int), .string x2]) [0, 1, 2, 4, 5, 6, 7, 9] [2, 5] [0, 1, 2, 4, 5, 6, 7, 3, 8, 9, 10] (by kernel_rfl) (by kernel_rfl) rfl (by kernel_rfl) rfl O5.out.drawn (by simp only [picked, List.filterMap_cons, List.filterMap_nil, List.getElem?_cons_zero, List.getElem?_cons_succ, Option.map_some]; exact rfl) ?_
      iterate 7
        refine seq_pure (v := ?_) rfl rfl (fun W hS => ?_) ?_
        rotate_left
        · first
            | (conv => lhs; simp [go_sem]
               first | done | exact rfl)
            | (have q2 := hS rfl
               obtain ⟨q2, q5, q6⟩ := q2.at_
               conv => lhs; simp [go_sem, q2]
               first | done | exact rfl)
        simp only [Act.put, List.setIfInBounds_toArray, List.set_cons_zero, List.set_cons_succ]
      refine seq_on rfl rfl fun K hK => ?_
      go_wp2_with (go_at_call 42; refine HSk.out.mono ?_; rintro e w' ⟨rfl, rfl⟩)
      refine hK _ _ O5.out.drawn ?_
      clear hK K
      refine seq_on rfl rfl fun K hK => ?_
      go_wp2
      refine HKk.out.mono ?_
      rintro e w' ⟨rfl, rfl⟩
      go_wp2
      refine hK _ _ O5.out.drawn ?_
      clear hK K
      have q1 : (0 : Int) ≤ q := by omega
      have q2 : (q : Int) ≤ x2.size := by omega
      have q3 : q ≤ x2.size := by omega
      refine seq_pure (v := ?_) rfl rfl (fun W hS => ?_) ?_
      rotate_left
      · conv => lhs; simp [go_sem, q1, q2, q3]
        first | done | exact rfl
      simp only [Act.put, List.setIfInBounds_toArray, List.set_cons_zero, List.set_cons_succ]
      refine seq_on rfl rfl fun K hK => ?_
      go_wp2
      have G1 : Chg (· = sb) W0 (W0.drew.setCells sb (x1 * 64) (bcells (x2.extract 0 q))) := chg_setCells (S := (· = sb)) (.inl rfl) _ _ _ (Chg.refl _ _).drew
      have hq2 : q = (x2.extract 0 q).size := US.out.symm
      refine hK _ _ (G1.own O5.out (show ¬ wr.heap.size = sb by omega)) ?_
      clear hK K
      have B3 := bytesAt_setCells sb (x2.extract 0 q).data.toList W0.drew (x1 * 64) _ (B2.out.keep rfl) (by show x1 * 64 + (x2.extract 0 q).size ≤ _; rw [US.out, hsl.out]; omega)
      have B4 : BytesAt (W0.drew.setCells sb (x1 * 64) (bcells (x2.extract 0 q))) sb (settled kp (s.wr.take (k + 1)) 0 s.sure) := by
        have e : s.wr.take (k + 1) = s.wr.take k ++ [(x1, x2)] := by rw [X.out, List.take_succ_eq_append_getElem]
        have hl : (s.wr.take k).length = k := by rw [List.length_take]; have := M.out; omega
        rw [e, settled_snoc, hl, Nat.zero_add, ← QK.out]
        exact B3
      have G2 := G0.out.same G1
      clear B3 G1 hq2
      replace B4 := Lib.hid B4
      replace G2 := Lib.hid G2
      obtain ⟨W2, hW2⟩ : ∃ W2, W2 = W0.drew.setCells sb (x1 * 64) (bcells (x2.extract 0 q)) := ⟨_, rfl⟩
      rw [← hW2] at B4 G2 ⊢
      clear hW2
      refine seq_end ?_
      go_wp2
      go_roundw
      case rel => exact ⟨k + 1, by omega, by go_num, G2.out, B4.out⟩
      case measure => simp [intOf]; omega
    · obtain rfl : k = m := by omega
      rw [M.out, List.take_length] at hB
      obtain ⟨m1, m2, m3⟩ := H.out.ne3
      have O1 := hc.own H.out.own (fun e => H.out.ne1 e.symm)
      have M1 := H.out.map.keep (hc.block mb (H.out.in_ (.inr (.inr (.inl rfl)))) m2)
      have M2 : MapAt (wr.setCell ⟨d, 1, none⟩ (.slice none 0 0)) mb .i64 _ := M1.keep (Below.heap_setCell _ _ _ _ m1)
      obtain ⟨w4, hcl, M5, G3, z4⟩ := MapAt.clear (P := Try.prog) M2 0 Try.underlying69
      obtain ⟨o1, o2, o3⟩ := O1.at_
      have zs := H.out.in_ (q := sb) (.inr (.inl rfl))
      go_wp2
      go_end0
      have zwr := hc.size
      have kb : ∀ q, q ≠ d → q ≠ mb → q < wr.heap.size → w4.heap[q]? = wr.heap[q]? := fun q h1 h2 h3 => (G3.block q (by simpa [World.setCell] using h3) h2).trans (Below.heap_setCell _ _ _ _ h1)
      refine ⟨rfl, ⟨G3.own (O1.put 1 _) (fun e => m1 e.symm), H.out.cap, hB.keep (kb sb H.out.ne1 (fun e => m2 e.symm) (by omega)), World.ownsRow_nil _ _ _ _, ?_, H.out.ne1, fun g hg => (by cases hg), ⟨H.out.ok.pos, H.out.ok.max, settled_len kp n _ _ _ H.out.ok.len H.out.ok.wr, by simp, by simp, H.out.ok.fuse⟩⟩, ?_⟩
      · exact M5
      · exact ((hc.mono fun q _ e => .inr (.inl e)).set ⟨d, 1, none⟩ (.inl (.inl rfl)) _).same (G3.mono fun q _ e => .inr (.inr (.inl e)))
end
end Go.Proofs.Ytmincpmkiheofaa
