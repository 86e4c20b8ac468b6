
/- Plain mathematics of the reference's pages: the bytes of a page that is laid, one behind another. It speaks of no function. -/
import Derived.Test.YtmincpmkiheofaaRdoM
namespace Go.Proofs.Ytmincpmkiheofaa
open Go.ChangeShapes Go.WideShapes Go.ChangeAt Go.RowKit
set_option linter.unusedVariables false
set_option linter.unusedSimpArgs false

/-- where the byte m of the sectors stands in the page -/
def atB (m : Nat) : Nat := 63 * (m / 64) + m % 64 - (if 10 < m % 64 then 1 else 0)
def lb (p : ByteArray) (m : Nat) : UInt8 := if m % 64 = 10 then 0 else UInt8.ofNat (bN p (atB m))
/-- the first m bytes of the sectors -/
def LB (p : ByteArray) (m : Nat) : ByteArray := ⟨((List.range m).map (lb p)).toArray⟩
theorem LB_size (p : ByteArray) (m : Nat) : (LB p m).size = m := by unfold LB; rw [mk_size]; simp
theorem mk_app (a b : List UInt8) : (⟨(a ++ b).toArray⟩ : ByteArray) = ⟨a.toArray⟩ ++ ⟨b.toArray⟩ := by
  apply ByteArray.ext
  simp
theorem LB_snoc (p : ByteArray) (m : Nat) : LB p (m + 1) = LB p m ++ ⟨#[lb p m]⟩ := by
  unfold LB
  rw [List.range_succ, List.map_append]
  apply ByteArray.ext
  simp
theorem LB_byte (p : ByteArray) (m j : Nat) (hj : j < m) : bN (LB p m) j = (lb p j).toNat := by
  unfold LB
  rw [bN_mk]
  simp [hj]
theorem one_byte (s : ByteArray) (k : Nat) (h : k < s.size) : s.extract k (k + 1) = ⟨#[UInt8.ofNat (bN s k)]⟩ := by
  have z1 : (s.extract k (k + 1)).size = 1 := by rw [ByteArray.size_extract]; omega
  refine bN_ext _ _ z1 fun i hi => ?_
  have : i = 0 := by omega
  subst this
  have hlt := bN_lt s k
  rw [bN_extract s k (k + 1) 0 (by omega) (by omega), bN_one, if_pos rfl, UInt8.toNat_ofNat', Nat.mod_eq_of_lt (by omega), Nat.add_zero]
theorem ten_byte (p : ByteArray) (m : Nat) (h : m % 64 = 10 ∨ p.size ≤ atB m) : lb p m = 0 := by
  unfold lb
  split
  · rfl
  · rcases h with h | h
    · omega
    · rw [bN_out p _ h]; rfl
theorem lb_yes (p : ByteArray) (m : Nat) (h : m % 64 ≠ 10) : lb p m = UInt8.ofNat (bN p (atB m)) := by unfold lb; rw [if_neg h]
/-- nine sectors, one behind another -/
def nin (s : ByteArray) : List ByteArray := (List.range 9).map fun i => s.extract (64 * i) (64 * i + 64)
theorem nin_size (s : ByteArray) (h : s.size = 576) : ∀ x ∈ nin s, x.size = 64 := by
  intro x hx
  obtain ⟨i, hi, rfl⟩ := List.mem_map.1 hx
  have := List.mem_range.1 hi
  rw [ByteArray.size_extract]; omega
theorem lb_sec (p : ByteArray) (h : p.size ≤ 567) (i k : Nat) (hi : i < 9) (hk : k < 64) : (lb p (64 * i + k)).toNat = bN (secB p i) k := by
  have e1 : (64 * i + k) / 64 = i := by omega
  have e2 : (64 * i + k) % 64 = k := by omega
  rw [secB_byte p h i hi k hk]
  unfold lb atB
  rw [e1, e2]
  by_cases c : k = 10
  · subst c; simp
  · rw [if_neg c, UInt8.toNat_ofNat', Nat.mod_eq_of_lt (by have := bN_lt p (63 * i + k - if 10 < k then 1 else 0); omega)]
    by_cases c1 : k < 10
    · rw [if_pos c1, if_neg (by omega)]; rfl
    · rw [if_neg c1, if_neg c, if_pos (by omega)]
theorem lay_eq (p s : ByteArray) (hp : p.size = 512) (hs : s.size = 576) : LB p 576 = s ↔ secs p = nin s := by
  have hn := nin_size s hs
  have hb : ∀ i k, i < 9 → k < 64 → bN (s.extract (64 * i) (64 * i + 64)) k = bN s (64 * i + k) := fun i k hi hk => bN_extract s _ _ k (by omega) (by omega)
  constructor
  · intro e
    unfold secs nin
    apply List.map_congr_left
    intro i hi
    have hi := List.mem_range.1 hi
    refine bN_ext _ _ (by rw [secB_size p (by omega) i hi, ByteArray.size_extract]; omega) fun k hk => ?_
    rw [secB_size p (by omega) i hi] at hk
    rw [hb i k hi hk, ← lb_sec p (by omega) i k hi hk, ← e, LB_byte p 576 _ (by omega)]
  · intro e
    have hi' : ∀ i, i < 9 → secB p i = s.extract (64 * i) (64 * i + 64) := fun i hi => by
      have h1 : (secs p)[i]? = (nin s)[i]? := by rw [e]
      simpa [secs, nin, hi] using h1
    refine bN_ext _ _ (by rw [LB_size]; omega) fun m hm => ?_
    rw [LB_size] at hm
    rw [LB_byte p 576 m hm]
    have e1 := lb_sec p (by omega) (m / 64) (m % 64) (by omega) (by omega)
    rw [show 64 * (m / 64) + m % 64 = m by omega] at e1
    rw [e1, hi' _ (by omega), hb _ _ (by omega) (by omega), show 64 * (m / 64) + m % 64 = m by omega]
/-- how many of the first k bytes are a page's -/
def dn (k : Nat) : Nat := k - (k + 53) / 64
theorem dn_ten (k : Nat) (h : k % 64 = 10) : dn (k + 1) = dn k := by unfold dn; omega
theorem dn_one (k : Nat) (h : k % 64 ≠ 10) : dn (k + 1) = dn k + 1 := by unfold dn; omega
/-- the first bytes of the page in nine sectors -/
def PB (s : ByteArray) (m : Nat) : ByteArray := ⟨((catL (nin s)).take m).toArray⟩
theorem PB_size (s : ByteArray) (h : s.size = 576) (m : Nat) (hm : m ≤ 567) : (PB s m).size = m := by
  have := catL_len (nin s) (nin_size s h)
  have e : (nin s).length = 9 := by simp [nin]
  unfold PB
  rw [mk_size, List.length_take]
  omega
theorem PB_snoc (s : ByteArray) (h : s.size = 576) (k : Nat) (hk : k < 576) (h10 : k % 64 ≠ 10) : PB s (dn k + 1) = PB s (dn k) ++ s.extract k (k + 1) := by
  have hn := nin_size s h
  have hl := catL_len (nin s) hn
  have e9 : (nin s).length = 9 := by simp [nin]
  have hd : dn k < 567 := by unfold dn; omega
  have hlt : dn k < (catL (nin s)).length := by omega
  obtain ⟨j, hj, hj2⟩ : ∃ j, j < 63 ∧ dn k = 63 * (k / 64) + j ∧ (if j < 10 then k % 64 = j else k % 64 = j + 1) := by
    by_cases c : k % 64 < 10
    · exact ⟨k % 64, by omega, by unfold dn; omega, by rw [if_pos c]⟩
    · exact ⟨k % 64 - 1, by omega, by unfold dn; omega, by rw [if_neg (by omega)]; omega⟩
  have hi : k / 64 < (nin s).length := by omega
  have hc := catL_at (nin s) (k / 64) j hi hn hj
  rw [← hj2.1] at hc
  have hsi : (nin s)[k / 64]'hi = s.extract (64 * (k / 64)) (64 * (k / 64) + 64) := by simp only [nin, List.getElem_map, List.getElem_range]
  rw [hsi] at hc
  have z : (s.extract (64 * (k / 64)) (64 * (k / 64) + 64)).size = 64 := by rw [ByteArray.size_extract]; omega
  have hb : (((catL (nin s)).getD (dn k) 0).toNat) = bN s k := by
    rw [hc, ← bN_list, stripB_byte _ z j hj]
    have h2 := hj2.2
    split at h2
    · rw [if_pos (by assumption), bN_extract s _ _ j (by omega) (by omega)]
      exact congrArg (bN s) (by omega)
    · rw [if_neg (by assumption), bN_extract s _ _ (j + 1) (by omega) (by omega)]
      exact congrArg (bN s) (by omega)
  unfold PB
  rw [one_byte s k (by omega), ← hb]
  clear hc hsi hj2 hb hl hi z
  generalize catL (nin s) = L at *
  generalize dn k = m at *
  rw [List.take_succ_eq_append_getElem hlt, mk_app, List.getD_eq_getElem?_getD, List.getElem?_eq_getElem hlt, Option.getD_some, UInt8.ofNat_toNat]
theorem PB_gat (s : ByteArray) (h : s.size = 576) : PB s 512 = gatP (nin s) := by
  have hn := nin_size s h
  have hl := catL_len (nin s) hn
  have e9 : (nin s).length = 9 := by simp [nin]
  have hz := gatP_size (nin s) hn e9
  refine bN_ext _ _ (by rw [PB_size s h 512 (by omega)]; omega) fun j hj => ?_
  rw [PB_size s h 512 (by omega)] at hj
  rw [gatP_byte _ hn e9 j hj]
  unfold PB
  rw [bN_mk]
  simp [List.getD_eq_getElem?_getD, hj]
end Go.Proofs.Ytmincpmkiheofaa
