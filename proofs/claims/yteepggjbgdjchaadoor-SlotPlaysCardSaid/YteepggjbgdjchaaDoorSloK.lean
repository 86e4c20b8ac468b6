
/- Mathematics of rooms behind calls: a record keeps its slot. It speaks of no function. -/
import Derived.Test.YteepggjbgdjchaaDoorSloL
namespace Go.Proofs.YteepggjbgdjchaaDoor
open Go.ChangeShapes Go.WideShapes Go.ChangeAt Go.RowKit
set_option linter.unusedVariables false
set_option linter.unusedSimpArgs false

theorem tr_at {L : List Sl} {i : Nat} {x : Sl} (h : L[i]? = some x) (hx : isE x = false) : (tr L)[i]? = some x := by
  obtain ⟨k, hk, he, hd⟩ := tr_take _ L rfl
  rw [he]
  by_cases hi : i < k
  · rw [List.getElem?_take_of_lt hi]; exact h
  · exfalso
    have : x ∈ L.drop k := by
      refine List.mem_of_getElem? (i := i - k) ?_
      rw [List.getElem?_drop, show k + (i - k) = i by omega]
      exact h
    rw [hd x this] at hx
    cases hx
theorem tr_last {m : List Sl} {y : Sl} (h : tr (m ++ [y]) = m ++ [y]) : isE y = false := by
  cases hy : isE y with
  | false => rfl
  | true =>
    exfalso
    rw [tr_yes _ _ hy] at h
    have h1 := tr_len m
    rw [h] at h1
    simp at h1
    omega
theorem vk_cases (L : List Sl) : (vk L = L.length ∧ vl L = L ++ [emS] ∧ ∀ x ∈ L, isE x = false) ∨ ∃ h : vk L < L.length, vl L = L ∧ isE (L[vk L]'h) = true := by
  by_cases h : vk L < L.length
  · exact .inr ⟨h, by unfold vl; rw [if_pos h], List.findIdx_getElem (w := h)⟩
  · have e : vk L = L.length := by have := vk_le L; omega
    refine .inl ⟨e, by unfold vl; rw [if_neg h], fun x hx => ?_⟩
    have := List.findIdx_eq_length.1 e
    simpa using this x hx
/-- the slots with a record in the first empty one -/
def adL (L : List Sl) (r : ByteArray) : List Sl := (vl L).set (vk L) (true, r)
theorem isE_used (r : ByteArray) : isE (true, r) = false := rfl
theorem adL_tr {L : List Sl} (h : tr L = L) (r : ByteArray) : tr (adL L r) = adL L r := by
  unfold adL
  rcases vk_cases L with ⟨e1, e2, _⟩ | ⟨hk, e2, he⟩
  · rw [e2, e1, List.set_append_right _ _ (Nat.le_refl _), Nat.sub_self]
    exact tr_no _ _ rfl
  · rw [e2]
    rcases snoc_cases L with h0 | ⟨m, y, h0⟩
    · rw [h0] at hk; simp at hk
    · have hy : isE y = false := tr_last (m := m) (by rw [← h0]; exact h)
      have hkm : vk L < m.length := by
        have hl : L.length = m.length + 1 := by rw [h0]; simp
        by_cases e : vk L = m.length
        · exfalso
          have : L[vk L]'hk = y := by
            have h1 : L[vk L]? = some y := by rw [e, h0]; simp
            rw [List.getElem?_eq_getElem hk] at h1
            injection h1
          rw [this, hy] at he
          cases he
        · omega
      obtain ⟨k, hk'⟩ : ∃ k, k = vk L := ⟨_, rfl⟩
      rw [← hk'] at hkm ⊢
      rw [h0, List.set_append_left _ _ hkm]
      exact tr_no _ _ hy
theorem set_sz : ∀ (L : List Sl) (k : Nat) (hk : k < L.length) (x : Sl), (recs (L.set k x)).length + (L[k]'hk).2.size = (recs L).length + x.2.size
  | y :: L, 0, _, x => by
    show (recs (x :: L)).length + y.2.size = (recs (y :: L)).length + x.2.size
    rw [show x :: L = [x] ++ L from rfl, show y :: L = [y] ++ L from rfl, recs_app, recs_app, recs_one, recs_one, List.length_append, List.length_append, len_data, len_data]
    omega
  | y :: L, k + 1, hk, x => by
    have := set_sz L k (by simpa using hk) x
    show (recs (y :: L.set k x)).length + (L[k]'_).2.size = (recs (y :: L)).length + x.2.size
    rw [show y :: L.set k x = [y] ++ L.set k x from rfl, show y :: L = [y] ++ L from rfl, recs_app, recs_app, List.length_append, List.length_append]
    omega
theorem emz (x : Sl) (h : isE x = true) : x.2.size = 0 := by rw [isE_eq x h]; rfl
theorem vl_at (L : List Sl) : isE ((vl L)[vk L]'(vk_lt L)) = true := by
  rcases vk_cases L with ⟨e1, e2, _⟩ | ⟨hk, e2, he⟩
  · have h1 : (vl L)[vk L]? = some emS := by rw [e2, e1]; simp
    rw [List.getElem?_eq_getElem (vk_lt L)] at h1
    injection h1 with h1
    rw [h1]; rfl
  · have h1 : (vl L)[vk L]? = some (L[vk L]'hk) := by
      rw [show (vl L)[vk L]? = L[vk L]? by rw [e2], List.getElem?_eq_getElem hk]
    rw [List.getElem?_eq_getElem (vk_lt L)] at h1
    injection h1 with h1
    rw [h1]; exact he
theorem adL_sz (L : List Sl) (r : ByteArray) : sz (adL L r) = sz (vl L) + r.size := by
  have h := set_sz (vl L) (vk L) (vk_lt L) (true, r)
  have h0 := emz _ (vl_at L)
  have h2 : (recs ((vl L).set (vk L) (true, r))).length = (recs (vl L)).length + r.size := by
    have h3 : ((true, r) : Sl).2.size = r.size := rfl
    omega
  unfold adL sz
  rw [List.length_set, h2]
  omega
theorem adL_ok {L : List Sl} (h : ∀ x ∈ L, okS x = true) (r : ByteArray) : ∀ x ∈ adL L r, okS x = true := by
  intro x hx
  rcases List.mem_or_eq_of_mem_set hx with hx | rfl
  · unfold vl at hx
    split at hx
    · exact h x hx
    · rcases List.mem_append.1 hx with h1 | h1
      · exact h x h1
      · simp at h1; rw [h1]; rfl
  · rfl
theorem adL_pk {L : List Sl} (h : Fit L) (r : ByteArray) : pk (adL L r) = if 496 < sz (vl L) + r.size then (⟨#[]⟩, 8) else (rmB (adL L r), 0) := by
  unfold pk
  rw [if_neg (by rw [List.all_eq_true.2 (adL_ok h.ok r)]; simp), adL_tr h.tr, adL_sz]
theorem ad_rm {L : List Sl} (h : Fit L) (r : ByteArray) : ad (rmB L) r = if 496 < sz (vl L) + r.size then (⟨#[]⟩, 0, 8) else (rmB (adL L r), vk L, 0) := by
  unfold ad
  rw [rd_rm L h]
  show (if (pk (adL L r)).2 = 0 then ((pk (adL L r)).1, vk L, 0) else (⟨#[]⟩, 0, (pk (adL L r)).2)) = _
  rw [adL_pk h r]
  by_cases h1 : 496 < sz (vl L) + r.size
  · rw [if_pos h1, if_pos h1]; rfl
  · rw [if_neg h1, if_neg h1]; rfl
theorem adL_fit {L : List Sl} (h : Fit L) (r : ByteArray) (h1 : ¬ 496 < sz (vl L) + r.size) : Fit (adL L r) := ⟨adL_ok h.ok r, adL_tr h.tr r, by rw [adL_sz]; omega⟩
theorem adL_new (L : List Sl) (r : ByteArray) : (adL L r)[vk L]? = some (true, r) := by
  unfold adL
  rw [List.getElem?_set_self (vk_lt L)]
theorem adL_old {L : List Sl} {r t : ByteArray} {i : Nat} (h : L[i]? = some (true, t)) : (adL L r)[i]? = some (true, t) := by
  have hi : i < L.length := (List.getElem?_eq_some_iff.1 h).1
  have hne : vk L ≠ i := by
    rintro rfl
    rcases vk_cases L with ⟨e1, e2, _⟩ | ⟨hk, e2, he⟩
    · omega
    · rw [List.getElem?_eq_getElem hk] at h
      injection h with h
      rw [h] at he
      cases he
  unfold adL
  rw [List.getElem?_set_ne hne]
  rw [List.getElem?_eq_getElem (Nat.lt_of_lt_of_le hi (vl_len L).1), vl_old L i hi, ← List.getElem?_eq_getElem hi]
  exact h
theorem lf_rm {L : List Sl} (h : Fit L) : lf (rmB L) = max (496 - (sz (vl L) : Int)) (-1) := by unfold lf; rw [rd_rm L h]
/-- slots behind Set or Del -/
theorem ch_rm {L : List Sl} (h : Fit L) (i : Int) (x : Sl) (h0 : (ch (rmB L) i x).2 = 0) : hd L i = true ∧ Fit (tr (L.set i.toNat x)) ∧ ch (rmB L) i x = (rmB (tr (L.set i.toNat x)), 0) := by
  have e := hs_some (rd_rm L h) i
  unfold ch at h0 ⊢
  by_cases hh : hd L i = true
  · rw [hh] at e
    rw [if_pos (show hs (rmB L) i = 0 from e), rd_rm L h] at h0 ⊢
    obtain ⟨hf, hp⟩ := pk_fit h0
    exact ⟨hh, hf, hp⟩
  · have hh' : hd L i = false := by simpa using hh
    rw [hh'] at e
    have e' : hs (rmB L) i = 6 := e
    rw [if_neg (by omega)] at h0
    simp only at h0
    omega
/-- an act leaves a room, and what it doesn't speak of in its slot -/
theorem dn_room {L : List Sl} (h : Fit L) (x : ActD) : ∃ L', dnR (rmB L) x = rmB L' ∧ Fit L' ∧ ∀ (i : Nat) (r : ByteArray), L[i]? = some (true, r) → (x.act % 4 = 0 ∨ x.no ≠ (i : Int)) → L'[i]? = some (true, r) := by
  have same : ∃ L', rmB L = rmB L' ∧ Fit L' ∧ ∀ (i : Nat) (r : ByteArray), L[i]? = some (true, r) → (x.act % 4 = 0 ∨ x.no ≠ (i : Int)) → L'[i]? = some (true, r) := ⟨L, rfl, h, fun _ _ h _ => h⟩
  have chg : ∀ y : Sl, ¬ x.act % 4 = 0 → ∃ L', (if (ch (rmB L) x.no y).2 = 0 then (ch (rmB L) x.no y).1 else rmB L) = rmB L' ∧ Fit L' ∧ ∀ (i : Nat) (r : ByteArray), L[i]? = some (true, r) → (x.act % 4 = 0 ∨ x.no ≠ (i : Int)) → L'[i]? = some (true, r) := by
    intro y hm
    by_cases h0 : (ch (rmB L) x.no y).2 = 0
    · rw [if_pos h0]
      obtain ⟨hh, hf, he⟩ := ch_rm h _ _ h0
      refine ⟨_, by rw [he], hf, fun i r hi hn => tr_at ?_ rfl⟩
      have h1 : 0 ≤ x.no := by unfold hd at hh; simp at hh; exact hh.1
      rw [List.getElem?_set_ne (by rcases hn with hn | hn; exact absurd hn hm; omega)]
      exact hi
    · rw [if_neg h0]; exact same
  unfold dnR
  by_cases h0 : x.act % 4 = 0
  · rw [if_pos h0, ad_rm h]
    by_cases h1 : 496 < sz (vl L) + x.s.size
    · rw [if_pos h1, if_neg (by decide)]; exact same
    · rw [if_neg h1, if_pos rfl]
      exact ⟨_, rfl, adL_fit h _ h1, fun i r hi _ => adL_old hi⟩
  · rw [if_neg h0]
    by_cases h1 : x.act % 4 = 1
    · rw [if_pos h1]; exact chg _ h0
    · rw [if_neg h1]
      by_cases h2 : x.act % 4 = 2
      · rw [if_pos h2]; exact chg _ h0
      · rw [if_neg h2]; exact same
theorem gt_rm {L : List Sl} (h : Fit L) {i : Nat} {r : ByteArray} (hi : L[i]? = some (true, r)) : hs (rmB L) (i : Int) = 0 ∧ gt (rmB L) (i : Int) = r := by
  have hk : i < L.length := (List.getElem?_eq_some_iff.1 hi).1
  have e : L[i]'hk = (true, r) := by rw [List.getElem?_eq_getElem hk] at hi; injection hi
  have h1 : hs (rmB L) (i : Int) = 0 := by
    rw [hs_some (rd_rm L h), hd_yes hk (by rw [e]; rfl)]; rfl
  refine ⟨h1, ?_⟩
  rw [gt_yes hk (rd_rm L h) h1, e]
theorem done_law {L : List Sl} (h : Fit L) (x : ActD) (hx : x.Ok) (hs : x.s.size ≤ 1000) (w : World) :
    Calls Tryd.prog 12 #[.string (rmB L), .agg #[.int .u8 x.act, .int .i64 x.no, .string x.s]] w fun e w' => ∃ L', e = .returned (.string (rmB L')) ∧ (Fit L' ∧ ∀ (i : Nat) (r : ByteArray), L[i]? = some (true, r) → (x.act % 4 = 0 ∨ x.no ≠ (i : Int)) → L'[i]? = some (true, r)) ∧ Below w.heap.size w w' := by
  have z := rmB_size L h.sz
  refine (done_any (rmB L) x w (by omega) hx hs).mono ?_
  rintro e w' ⟨rfl, hb⟩
  obtain ⟨L', h1, h2, h3⟩ := dn_room h x
  exact ⟨L', by rw [h1], ⟨h2, h3⟩, hb⟩
end Go.Proofs.YteepggjbgdjchaaDoor
