
/- The contracts of the ninth law package's few and pages. Conditions: those that each theorem names. -/
import Derived.Test.YtmincpmkiheofaaActR
import Derived.Test.YtmincpmkiheofaaRdlA
namespace Go.Proofs.Ytmincpmkiheofaa
open Go.ChangeShapes Go.WideShapes Go.ChangeAt Go.RowKit
set_option linter.unusedVariables false
set_option linter.unusedSimpArgs false

/-- few enough and small enough -/
def FewA (l : List ActD) : Prop := l.length ≤ 40 ∧ ∀ i (h : i < l.length), (l[i]'h).kl ≤ 1000
def fewRel (w W : World) (l : List ActD) (e : Ending) : Prop := w = W ∧ ((e = .returned (.bool true) ∧ FewA l) ∨ e = .returned (.bool false))
theorem few_no {w : World} {l : List ActD} : fewRel w w l (.returned (.bool false)) := ⟨rfl, .inr rfl⟩
set_option maxRecDepth 100000 in
theorem few_any (w : World) (a : Option Addr) (len cap : Nat) (l : List ActD) (h : IsActs w a len cap l) :
    Calls Try.prog 8 #[.slice a len cap] w fun e w' => fewRel w w' l e := by
  obtain ⟨h1, h2, h3, h4⟩ := h
  unfold maxLen at h2
  have hlen : len ≤ 9223372036854775807 := by omega
  replace h3 := Lib.hid h3
  replace h4 := Lib.hid h4
  go_enter Try.func8, Try.ntmps8
  go_wp2
  go_loop [3] (fun i => ∃ k : Nat, k ≤ len ∧ k ≤ 40 ∧ i = .int .i64 k ∧ ∀ j (hj : j < l.length), j < k → (l[j]'hj).kl ≤ 1000) (fun i => len - (intOf i).toNat)
  case atStart => exact ⟨0, by omega, by omega, rfl, fun _ _ h => by omega⟩
  case round =>
    obtain ⟨k, hk, hk3, rfl, hok⟩ := hrel
    replace hok := Lib.hid hok
    by_cases hlt : k < len
    · rcases h4.out with h | ⟨b, o, rfl, hb, hc⟩
      · omega
      have hkl : k < l.length := by rw [h3.out]; exact hlt
      obtain ⟨hcell, hx⟩ := hc k hkl
      have c3 := hcell 3 (by omega)
      have hx5 := hx.keep.1
      have hx6 := hx.keep.2.1
      unfold maxLen at hx6
      obtain ⟨y, hy⟩ : ∃ y, y = l[k]'hkl := ⟨_, rfl⟩
      rw [← hy] at c3 hx5 hx6
      replace hy := Lib.hid hy
      obtain ⟨x0, x1, x2, ka, kl, kc, zs, x4, x5⟩ := y
      simp only [ActD.cells, List.getElem?_toArray, List.getElem?_cons_succ, List.getElem?_cons_zero] at c3 hx5 hx6
      clear hcell hx hc
      by_cases g1 : 40 ≤ k
      · go_wp2
        go_ret
        exact few_no
      · by_cases g2 : 1000 < kl
        · go_wp2
          go_ret
          exact few_no
        · go_wp2
          go_round
          case rel =>
            refine ⟨k + 1, by omega, by omega, by go_num, fun j hj hjk => ?_⟩
            by_cases e : j = k
            · subst e
              rw [← hy.out]
              simp only; omega
            · exact hok.out j hj (by omega)
          case measure => simp [intOf]; omega
    · obtain rfl : k = len := by omega
      go_wp2
      go_ret
      exact ⟨rfl, .inl ⟨rfl, by rw [h3.out]; exact hk3, fun i hi => hok.out i hi (by have := h3.out; omega)⟩⟩

/-- an act's pages: so many, made of its byte -/
def nPg (x : ActD) : Nat := (IntKind.u64.wrap x.n % 6).toNat
def pgL (b n : Nat) : List ByteArray := (List.range n).map fun i => Pg b (i % 256)
theorem pgL_len (b n : Nat) : (pgL b n).length = n := by simp [pgL]
theorem pgL_size (b n : Nat) : ∀ s ∈ pgL b n, s.size = 512 := by
  intro s hs
  obtain ⟨i, _, rfl⟩ := List.mem_map.1 hs
  exact Pg_size _ _
theorem pgL_succ (b n : Nat) : pgL b (n + 1) = pgL b n ++ [Pg b (n % 256)] := by simp [pgL, List.range_succ]
set_option maxRecDepth 100000 in
set_option maxHeartbeats 2000000 in
theorem pages_any (w : World) (x : ActD) (hb : (Lit.int .u8 x.byte).wf = true) (hn : (Lit.int .i64 x.n).wf = true) :
    Calls Try.prog 15 #[.agg x.cells] w fun e w' => ∃ v, e = .returned v ∧ StrsIn w' (fun b => w.heap.size ≤ b) v (pgL x.byte.toNat (nPg x)) ∧ Below w.heap.size w w' := by
  have r0 := wf_u8 hb
  have r1 := wf_i64 hn
  obtain ⟨b, hbe⟩ : ∃ b : Nat, x.byte = (b : Int) := ⟨x.byte.toNat, by omega⟩
  obtain ⟨n, hne⟩ : ∃ n, n = nPg x := ⟨_, rfl⟩
  have hn6 : n < 6 := by rw [hne]; unfold nPg; omega
  have hU0 : 0 ≤ IntKind.u64.wrap x.n := by rw [IntKind.wrap_u64]; omega
  have hnI : IntKind.u64.wrap x.n % 6 = (n : Int) := by rw [hne]; unfold nPg; omega
  have hb8 : b < 256 := by omega
  rw [hbe, ← hne]
  obtain ⟨x0, x1, x2, ka, kl, kc, zs, x4, x5⟩ := x
  simp only at hbe hnI hU0
  subst hbe
  clear hb hn r0 r1 hne
  obtain ⟨U, hU⟩ : ∃ U, IntKind.u64.wrap x2 = U := ⟨_, rfl⟩
  rw [hU] at hnI hU0
  have o0 := Own.made w 38 (ActD.cells ⟨x0, (b : Int), x2, ka, kl, kc, zs, x4, x5⟩)
  go_enter Try.func15, Try.ntmps15
  go_wp2
  obtain ⟨W0, hW0⟩ : ∃ W0, W0 = w.alloc (.cells (ActD.cells ⟨x0, (b : Int), x2, ka, kl, kc, zs, x4, x5⟩) 38) := ⟨_, rfl⟩
  have B0 : Below w.heap.size w W0 := hW0 ▸ (Below.refl _ _).alloc (Nat.le_refl _) _
  rw [← hW0] at o0 ⊢
  clear hW0
  obtain ⟨C, hC⟩ : ∃ C, C = ActD.cells ⟨x0, (b : Int), x2, ka, kl, kc, zs, x4, x5⟩ := ⟨_, rfl⟩
  have hC1 : C[1]? = some (.int .u8 (b : Int)) := by rw [hC]; rfl
  have hC2 : C[2]? = some (.int .i64 x2) := by rw [hC]; rfl
  rw [← hC] at o0 ⊢
  replace o0 := Lib.hid o0
  replace B0 := Lib.hid B0
  clear hC
  go_loopw [3, 4] (fun v i wr => ∃ k : Nat, k ≤ n ∧ i = .int .i64 k ∧ StrOwn wr (fun q => w.heap.size < q) v (pgL b k) ∧ Own wr w.heap.size 38 C ∧ Below w.heap.size w wr) (fun _ i wr => n - (intOf i).toNat)
  case atStart => exact ⟨0, by omega, rfl, StrOwn.nil _ _, o0.out, B0.out⟩
  case round =>
    clear o0 B0
    obtain ⟨k, hk, rfl, hS, hO, hL⟩ := hrel
    have c1 := (hO.at_.1 1).trans hC1
    have c2 := (hO.at_.1 2).trans hC2
    have hz := hL.size
    have hlg := hO.in_
    by_cases hlt : k < n
    · have hpl := pgL_len b k
      have HPG := Lib.hid (Page_any b k hb8 (by omega))
      have hzp := Pg_size b k
      have hsc := pgL_succ b k
      rw [Nat.mod_eq_of_lt (show k < 256 by omega)] at hsc
      obtain ⟨P, hP⟩ : ∃ P, P = Pg b k := ⟨_, rfl⟩
      rw [← hP] at HPG hzp hsc
      have HZP := Lib.hid hzp
      have HSC := Lib.hid hsc
      clear hP hzp hsc
      obtain ⟨xa, xc, rfl, hx1, hx2⟩ := hS.shape
      replace hS := Lib.hid hS
      replace hO := Lib.hid hO
      replace hL := Lib.hid hL
      rw [hpl] at hx1 ⊢
      obtain ⟨i0, hi0, hz0, hz1, hz2⟩ := info_parts info_st
      have hkn : ((k : Int) < (n : Int)) := by omega
      go_wp2_with fail
      refine (HPG.out _).mono ?_
      rintro e w2 ⟨rfl, hb2⟩
      have hS2 := hS.out.below hb2
      rw [hpl] at hS2
      have hO2 : Own w2 w.heap.size 38 C := hO.out.keep hb2
      have hL2 := then_ hL.out hb2 hz
      have hrow := hS2.row
      rw [hpl] at hrow
      have hz2' := hL2.size
      replace hO2 := Lib.hid hO2
      replace hL2 := Lib.hid hL2
      have HS2 := Lib.hid hS2
      clear hb2 hS2
      go_wp2_with (at_builtin; refine wpList_append_own_at _ rfl _ _ 35 rfl 0 9 i0 (.string ⟨#[]⟩) 1 16 Try.underlying35 hi0 hz0 hz1 hz2 rfl (by decide) (.slice xa k xc) k ((pgL b k).map .string) rfl (hrow.alloc _) ⟨w2.heap.size, 0, none⟩ 1 1 [.string P] rfl rfl ?c1 ?c2 (by unfold maxLen; omega) (by omega) (Nat.zero_le _) ?_)
      case c1 => intro j u hu; exact one_cell _ _ _ _ hu
      case c2 => intro u hu; simp at hu; subst hu; rfl
      intro v' w5 hown hgrow hnil hloc
      clear hnil
      have HP := StrOwn.push HS2.out (t := P) (by rw [HZP.out]; unfold maxLen; omega) ((Below.refl _ _).alloc (Nat.le_refl _) _) (by rw [hpl]; exact hown) hgrow (hloc.imp_right fun h => h.trans (by simp)) (fun q hq => by have := hO2.out.in_; omega)
      obtain ⟨hS5, hc5⟩ := HP
      have hO5 : Own w5 w.heap.size 38 C := hc5.own hO2.out fun h => by have := HS2.out.at_ _ h; omega
      have hL5 : Below w.heap.size w w5 := hL2.out.trans (hc5.below hz2' fun q h => by have := HS2.out.at_ _ h; omega)
      rw [← HSC.out] at hS5
      have hl5 := pgL_len b (k + 1)
      obtain ⟨ya, yc, rfl, hy1, hy2⟩ := hS5.shape
      rw [hl5] at hS5 ⊢
      replace hS5 := Lib.hid hS5
      replace hO5 := Lib.hid hO5
      replace hL5 := Lib.hid hL5
      clear hown hgrow hloc hc5 hy1 hy2 hl5 hrow
      go_wp2
      go_roundw
      case rel => exact ⟨k + 1, by omega, by go_num, hS5.out, hO5.out, hL5.out⟩
      case measure => simp [intOf]; omega
    · obtain rfl : k = n := by omega
      have HS := Lib.hid hS.in_
      clear hS
      go_wp2
      go_ret
      exact ⟨_, rfl, HS.out.mono fun q _ h => by omega, hL⟩
end Go.Proofs.Ytmincpmkiheofaa
