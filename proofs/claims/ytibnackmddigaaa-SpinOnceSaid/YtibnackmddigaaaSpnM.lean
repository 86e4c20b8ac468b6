
/- Halves of edges: in which order they leave a vertex, which one follows another. Plain mathematics. No condition but those that each theorem names. -/
import Derived.Test.YtibnackmddigaaaPlnM
namespace Go.Proofs.Ytibnackmddigaaa.Pl
open Go.ChangeShapes Go.WideShapes Go.ChangeAt Go.RowKit
set_option linter.unusedVariables false
set_option linter.unusedSimpArgs false

/-- a half: its edge's number, and whether it is gone back -/
abbrev Hf := Int × Bool
def tw (h : Hf) : Hf := (h.1, !h.2)
theorem tw_tw (h : Hf) : tw (tw h) = h := by simp [tw]
def lsH (a b : Hf) : Bool := decide (a.1 < b.1) || (decide (a.1 = b.1) && (!a.2 && b.2))
def hfs (es : List Eg) : List Hf := es.flatMap fun x => [(x.id, false), (x.id, true)]
def frm (es : List Eg) (h : Hf) : Int := match fE es h.1 with
  | some x => if h.2 then x.b else x.a
  | none => 0
def dst (es : List Eg) (h : Hf) : Int := frm es (tw h)
def lv (es : List Eg) (i : Int) : List Hf := (hfs es).filter fun h => frm es h == i
def insL {α : Type} (lt : α → α → Bool) (x : α) : List α → List α
  | [] => [x]
  | y :: l => if lt x y then x :: y :: l else y :: insL lt x l
def cmH (vs : List Vx) (es : List Eg) (i : Int) (x y : Hf) : Int := rndP (px vs i) (py vs i) (px vs (dst es x)) (py vs (dst es x)) (px vs (dst es y)) (py vs (dst es y))
def ltH (vs : List Vx) (es : List Eg) (i : Int) (x y : Hf) : Bool := decide (cmH vs es i x y < 0)
def ot (vs : List Vx) (es : List Eg) (i : Int) : List Hf := (lv es i).foldl (fun out x => insL (ltH vs es i) x out) []
/-- the one that stands ahead, around -/
def prv (l : List Hf) (x : Hf) : Hf := if l.idxOf x = 0 then l.getLastD (0, false) else l.getD (l.idxOf x - 1) (0, false)
def nx (vs : List Vx) (es : List Eg) (h : Hf) : Hf := prv (ot vs es (dst es h)) (tw h)

section
variable {vs : List Vx} {es : List Eg}
theorem fE_of (h : es.Pairwise fun u v => u.id < v.id) {v : Eg} (hv : v ∈ es) : fE es v.id = some v := by
  unfold fE
  induction es with
  | nil => cases hv
  | cons x l ih =>
    rw [List.pairwise_cons] at h
    rw [List.find?_cons]
    rcases List.mem_cons.1 hv with rfl | hv
    · simp
    · have : (x.id == v.id) = false := by have := h.1 v hv; simp; omega
      rw [this]
      exact ih h.2 hv
theorem mem_hfs {h : Hf} : h ∈ hfs es ↔ hasE es h.1 = true := by
  rw [hasE_iff]
  unfold hfs
  rw [List.mem_flatMap]
  constructor
  · rintro ⟨x, hx, k⟩
    refine ⟨x, hx, ?_⟩
    simp at k
    rcases k with rfl | rfl <;> rfl
  · rintro ⟨x, hx, k⟩
    refine ⟨x, hx, ?_⟩
    obtain ⟨e, b⟩ := h
    simp only at k
    subst k
    cases b <;> simp
theorem tw_mem {h : Hf} : tw h ∈ hfs es ↔ h ∈ hfs es := by rw [mem_hfs, mem_hfs]; rfl
theorem hfs_nodup (h : es.Pairwise fun u v => u.id < v.id) : (hfs es).Nodup := by
  unfold hfs
  induction es with
  | nil => simp
  | cons x l ih =>
    rw [List.pairwise_cons] at h
    rw [List.flatMap_cons, List.nodup_append]
    refine ⟨by simp, ih h.2, fun a ha b hb e => ?_⟩
    subst e
    obtain ⟨y, hy, k⟩ := List.mem_flatMap.1 hb
    have := h.1 y hy
    simp at ha k
    rcases ha with rfl | rfl <;> rcases k with k | k <;> simp at k <;> omega
theorem hfs_len : (hfs es).length = 2 * es.length := by
  unfold hfs
  induction es with
  | nil => rfl
  | cons x l ih => rw [List.flatMap_cons, List.length_append, ih]; simp; omega
theorem mem_lv {h : Hf} {i : Int} : h ∈ lv es i ↔ h ∈ hfs es ∧ frm es h = i := by unfold lv; simp
theorem lv_nodup (h : es.Pairwise fun u v => u.id < v.id) (i : Int) : (lv es i).Nodup := (hfs_nodup h).filter _
theorem lv_len (i : Int) : (lv es i).length ≤ 2 * es.length := by rw [← hfs_len (es := es)]; exact List.length_filter_le _ _
theorem half_edge (h : es.Pairwise fun u v => u.id < v.id) {x : Hf} (hx : x ∈ hfs es) : ∃ e ∈ es, e.id = x.1 ∧ fE es x.1 = some e ∧ frm es x = (if x.2 then e.b else e.a) ∧ dst es x = (if x.2 then e.a else e.b) := by
  rw [mem_hfs, hasE_iff] at hx
  obtain ⟨e, he, k⟩ := hx
  have hf : fE es x.1 = some e := by rw [← k]; exact fE_of h he
  refine ⟨e, he, k, hf, ?_, ?_⟩
  · unfold frm; rw [hf]
  · unfold dst frm tw; simp only; rw [hf]; cases x.2 <;> rfl
theorem dst_tw (h : Hf) : dst es (tw h) = frm es h := by unfold dst; rw [tw_tw]
/-- an edge is told by its ends, whichever way it is gone -/
theorem half_ends (h : FlE vs es) {x y : Hf} (hx : x ∈ hfs es) (hy : y ∈ hfs es) (h1 : frm es x = frm es y) (h2 : dst es x = dst es y) : x = y := by
  obtain ⟨e, he, e1, _, e2, e3⟩ := half_edge h.rise hx
  obtain ⟨f, hf, f1, _, f2, f3⟩ := half_edge h.rise hy
  rw [e2, f2] at h1
  rw [e3, f3] at h2
  have hne := (h.ends e he).1
  have hid : e.id = f.id := by
    rcases Int.lt_trichotomy e.id f.id with k | k | k
    · exfalso
      obtain ⟨i, hi, rfl⟩ := List.mem_iff_getElem.1 he
      obtain ⟨j, hj, rfl⟩ := List.mem_iff_getElem.1 hf
      rcases Nat.lt_trichotomy i j with c | c | c
      · have := List.pairwise_iff_getElem.1 h.apart i j hi hj c
        unfold jn at this
        cases hx2 : x.2 <;> cases hy2 : y.2 <;> simp [hx2, hy2] at h1 h2 <;> simp [h1, h2] at this
      · subst c; omega
      · have := List.pairwise_iff_getElem.1 h.rise j i hj hi c; omega
    · exact k
    · exfalso
      obtain ⟨i, hi, rfl⟩ := List.mem_iff_getElem.1 he
      obtain ⟨j, hj, rfl⟩ := List.mem_iff_getElem.1 hf
      rcases Nat.lt_trichotomy i j with c | c | c
      · have := List.pairwise_iff_getElem.1 h.rise i j hi hj c; omega
      · subst c; omega
      · have := List.pairwise_iff_getElem.1 h.apart j i hj hi c
        unfold jn at this
        cases hx2 : x.2 <;> cases hy2 : y.2 <;> simp [hx2, hy2] at h1 h2 <;> simp [h1, h2] at this
  have hef : e = f := by
    have k1 := fE_of h.rise he
    have k2 := fE_of h.rise hf
    rw [hid, k2] at k1
    exact (Option.some.inj k1).symm
  subst hef
  obtain ⟨a, b⟩ := x
  obtain ⟨c, d⟩ := y
  simp only at e1 f1 h1 h2
  have : b = d := by
    cases b <;> cases d <;> simp at h1 h2 ⊢
    · exact hne h1
    · exact hne h1.symm
  rw [← e1, ← f1, this]
theorem half_has (h : FlE vs es) {x : Hf} (hx : x ∈ hfs es) : hasV vs (frm es x) = true ∧ hasV vs (dst es x) = true ∧ frm es x ≠ dst es x := by
  obtain ⟨e, he, _, _, e2, e3⟩ := half_edge h.rise hx
  obtain ⟨k1, k2, k3⟩ := h.ends e he
  rw [e2, e3]
  cases x.2
  · exact ⟨k2, k3, k1⟩
  · exact ⟨k3, k2, Ne.symm k1⟩
theorem px_two (h : FlV vs) {i j : Int} (hi : hasV vs i = true) (hj : hasV vs j = true) (hij : i ≠ j) : ¬ (px vs j = px vs i ∧ py vs j = py vs i) := by
  have := px_apart h hj hi (Ne.symm hij)
  simpa using this
/-- on one side of a point, in one straight line: one of the two is on the other one's way -/
theorem way_sg {x y u v : Int} (hx : 0 < y ∨ y = 0 ∧ 0 < x) (hu : 0 < v ∨ v = 0 ∧ 0 < u) (e : x * v = y * u) : sg x = sg u ∧ sg y = sg v := by
  have s1 := sg_mul x v
  have s2 := sg_mul y u
  rw [e] at s1
  rw [s1] at s2
  clear e s1
  rcases sg3 x with ⟨hx', ex⟩ | ⟨hx', ex⟩ | ⟨hx', ex⟩ <;> rcases sg3 y with ⟨hy, ey⟩ | ⟨hy, ey⟩ | ⟨hy, ey⟩ <;> rcases sg3 u with ⟨hu', eu⟩ | ⟨hu', eu⟩ | ⟨hu', eu⟩ <;> rcases sg3 v with ⟨hv, ev⟩ | ⟨hv, ev⟩ | ⟨hv, ev⟩ <;> rw [ex, ey, eu, ev] at s2 <;> rw [ex, ey, eu, ev] <;> omega
theorem way_cmp {x y u v : Int} (hsx : sg x = sg u) (hsy : sg y = sg v) (hne : ¬ (x = u ∧ y = v)) (ha : ¬ (x = 0 ∧ y = 0)) (e : x * v = y * u) :
    ((0 < x ∨ 0 = x ∧ 0 < y) ∧ (x < u ∨ x = u ∧ y < v) ∨ (u < x ∨ u = x ∧ v < y) ∧ (x < 0 ∨ x = 0 ∧ y < 0)) ∨ ((0 < u ∨ 0 = u ∧ 0 < v) ∧ (u < x ∨ u = x ∧ v < y) ∨ (x < u ∨ x = u ∧ y < v) ∧ (u < 0 ∨ u = 0 ∧ v < 0)) := by
  by_cases hxu : x = u
  · subst hxu
    by_cases hx0 : x = 0
    · subst hx0
      have : y ≠ v := fun k => hne ⟨rfl, k⟩
      unfold sg at hsy
      omega
    · exfalso
      apply hne
      refine ⟨rfl, ?_⟩
      rw [Int.mul_comm y x] at e
      exact (eq_of_mul hx0 e).symm
  · unfold sg at hsx
    omega
theorem on_way {o1 o2 a1 a2 b1 b2 : Int} (ha : ¬ (a1 = o1 ∧ a2 = o2)) (hb : ¬ (b1 = o1 ∧ b2 = o2)) (hab : ¬ (a1 = b1 ∧ a2 = b2)) (h : rndP o1 o2 a1 a2 b1 b2 = 0) : OnP a1 a2 o1 o2 b1 b2 ∨ OnP b1 b2 o1 o2 a1 a2 := by
  have h0 := sg_zero.1 (rnd_zero h)
  have hl : Late o1 o2 a1 a2 ↔ Late o1 o2 b1 b2 := by
    unfold rndP at h
    by_cases la : Late o1 o2 a1 a2 <;> by_cases lb : Late o1 o2 b1 b2 <;> simp [la, lb] at h ⊢
  have h1 : ar o1 o2 b1 b2 a1 a2 = 0 := by unfold ar at h0 ⊢; grind
  have e : (a1 - o1) * (b2 - o2) = (a2 - o2) * (b1 - o1) := by unfold ar at h0; omega
  have hs : sg (a1 - o1) = sg (b1 - o1) ∧ sg (a2 - o2) = sg (b2 - o2) := by
    unfold Late at hl
    by_cases la : a2 < o2 ∨ a2 = o2 ∧ a1 < o1
    · have lb := hl.1 la
      have := way_sg (x := o1 - a1) (y := o2 - a2) (u := o1 - b1) (v := o2 - b2) (by omega) (by omega) (by grind)
      have n1 : a1 - o1 = -(o1 - a1) := by omega
      have n2 : b1 - o1 = -(o1 - b1) := by omega
      have n3 : a2 - o2 = -(o2 - a2) := by omega
      have n4 : b2 - o2 = -(o2 - b2) := by omega
      rw [n1, n2, n3, n4, sg_neg, sg_neg, sg_neg, sg_neg, this.1, this.2]
      exact ⟨rfl, rfl⟩
    · have lb : ¬ (b2 < o2 ∨ b2 = o2 ∧ b1 < o1) := fun k => la (hl.2 k)
      exact way_sg (by omega) (by omega) e
  have := way_cmp hs.1 hs.2 (by omega) (by omega) e
  unfold OnP
  rcases this with k | k
  · exact .inl ⟨by omega, h1⟩
  · exact .inr ⟨by omega, h0⟩
theorem rng_px (h : FlV vs) {i : Int} (hi : hasV vs i = true) : Rng (px vs i) (py vs i) := by
  have := px_rng h.rng hi
  exact inB_iff.1 this
theorem fV_px {i : Int} {v : Vx} (h : fV vs i = some v) : px vs i = v.x ∧ py vs i = v.y := by
  unfold px py
  rw [h]
  exact ⟨rfl, rfl⟩
theorem off_V (hV : FlV vs) (hE : FlE vs es) {e : Eg} (he : e ∈ es) {j : Int} (hj : hasV vs j = true) : ¬ OnP (px vs j) (py vs j) (px vs e.a) (py vs e.a) (px vs e.b) (py vs e.b) := by
  intro hon
  have h0 := hE.off e he
  unfold onV at h0
  obtain ⟨v, hv⟩ := fV_some hj
  have hm := (fV_mem hv).1
  have := any_no.1 h0 v hm
  have h1 : onB v.x v.y (px vs e.a) (py vs e.a) (px vs e.b) (py vs e.b) = true := by
    rw [onB_iff]
    obtain ⟨k1, k2⟩ := fV_px hv
    rw [← k1, ← k2]
    obtain ⟨_, q2, q3⟩ := hE.ends e he
    exact ⟨⟨rng_px hV hj, rng_px hV q2, rng_px hV q3⟩, hon⟩
  rw [h1] at this
  cases this
/-- no vertex is on the way of a half -/
theorem off_half (hV : FlV vs) (hE : FlE vs es) {x : Hf} (hx : x ∈ hfs es) {j : Int} (hj : hasV vs j = true) : ¬ OnP (px vs j) (py vs j) (px vs (frm es x)) (py vs (frm es x)) (px vs (dst es x)) (py vs (dst es x)) := by
  obtain ⟨e, he, _, _, e2, e3⟩ := half_edge hE.rise hx
  rw [e2, e3]
  cases x.2
  · exact off_V hV hE he hj
  · intro k
    exact off_V hV hE he hj (on_swap.1 k)
/-- halves that leave one vertex stand in one order -/
theorem cmH_zero (hV : FlV vs) (hE : FlE vs es) {i : Int} {x y : Hf} (hx : x ∈ lv es i) (hy : y ∈ lv es i) (h : cmH vs es i x y = 0) : x = y := by
  obtain ⟨hx1, hx2⟩ := mem_lv.1 hx
  obtain ⟨hy1, hy2⟩ := mem_lv.1 hy
  obtain ⟨f1, f2, f3⟩ := half_has hE hx1
  obtain ⟨g1, g2, g3⟩ := half_has hE hy1
  by_cases hd : dst es x = dst es y
  · exact half_ends hE hx1 hy1 (hx2.trans hy2.symm) hd
  · exfalso
    rw [hx2] at f1 f3
    rw [hy2] at g1 g3
    rcases on_way (px_two hV f1 f2 f3) (px_two hV g1 g2 g3) (px_two hV g2 f2 (Ne.symm hd)) h with k | k
    · have := off_half hV hE hy1 f2
      rw [hy2] at this
      exact this k
    · have := off_half hV hE hx1 g2
      rw [hx2] at this
      exact this k
theorem ltH_asym {i : Int} {x y : Hf} (h : ltH vs es i x y = true) : ltH vs es i y x = false := by
  unfold ltH cmH at *
  rw [rnd_anti]
  have := of_decide_eq_true h
  exact decide_eq_false (by omega)
theorem ltH_total (hV : FlV vs) (hE : FlE vs es) {i : Int} {x y : Hf} (hx : x ∈ lv es i) (hy : y ∈ lv es i) (hne : x ≠ y) (h : ltH vs es i x y = false) : ltH vs es i y x = true := by
  have h0 : cmH vs es i x y ≠ 0 := fun k => hne (cmH_zero hV hE hx hy k)
  unfold ltH at *
  have h1 := of_decide_eq_false h
  have h2 : cmH vs es i y x = -cmH vs es i x y := rnd_anti _ _ _ _ _ _
  exact decide_eq_true (by omega)
theorem ltH_trans (hV : FlV vs) (hE : FlE vs es) {i : Int} {x y z : Hf} (hx : x ∈ lv es i) (hy : y ∈ lv es i) (hz : z ∈ lv es i) (h : ltH vs es i x y = true) (k : ltH vs es i y z = true) : ltH vs es i x z = true := by
  have ne : ∀ {x : Hf}, x ∈ lv es i → ¬ (px vs (dst es x) = px vs i ∧ py vs (dst es x) = py vs i) := fun {x} hx => by
    obtain ⟨hx1, hx2⟩ := mem_lv.1 hx
    obtain ⟨f1, f2, f3⟩ := half_has hE hx1
    rw [hx2] at f1 f3
    exact px_two hV f1 f2 f3
  have h1 := of_decide_eq_true h
  have k1 := of_decide_eq_true k
  have h2 : cmH vs es i x z ≤ 0 := rnd_trans (ne hx) (ne hy) (ne hz) (Int.le_of_lt h1) (Int.le_of_lt k1)
  have h3 : cmH vs es i x z ≠ 0 := fun e => by
    obtain rfl := cmH_zero hV hE hx hz e
    have := ltH_asym h
    rw [k] at this
    cases this
  unfold ltH
  exact decide_eq_true (by omega)
theorem ltH_irrefl {i : Int} {x : Hf} : ltH vs es i x x = false := by
  cases h : ltH vs es i x x with
  | false => rfl
  | true => have := ltH_asym h; rw [h] at this; cases this
/-- putting in -/
theorem insL_perm {α : Type} (lt : α → α → Bool) (x : α) : ∀ l : List α, (insL lt x l).Perm (x :: l)
  | [] => .refl _
  | y :: l => by
    unfold insL
    split
    · exact .refl _
    · exact ((insL_perm lt x l).cons y).trans (.swap x y l)
theorem insL_sort {α : Type} {lt : α → α → Bool} {x : α} : ∀ {l : List α}, l.Pairwise (fun a b => lt a b = true) → (∀ y ∈ l, lt x y = false → lt y x = true) → (∀ y ∈ l, ∀ z ∈ l, lt x y = true → lt y z = true → lt x z = true) →
    (insL lt x l).Pairwise fun a b => lt a b = true
  | [], _, _, _ => by simp [insL]
  | y :: l, h, ht, hr => by
    rw [List.pairwise_cons] at h
    unfold insL
    split
    · rename_i k
      refine List.pairwise_cons.2 ⟨fun z hz => ?_, List.pairwise_cons.2 h⟩
      rcases List.mem_cons.1 hz with rfl | hz
      · exact k
      · exact hr y (by simp) z (by simp [hz]) k (h.1 z hz)
    · rename_i k
      refine List.pairwise_cons.2 ⟨fun z hz => ?_, insL_sort h.2 (fun y hy => ht y (by simp [hy])) fun y hy z hz => hr y (by simp [hy]) z (by simp [hz])⟩
      rcases List.mem_cons.1 ((insL_perm lt x l).mem_iff.1 hz) with rfl | hz
      · exact ht y (by simp) (by simpa using k)
      · exact h.1 z hz
theorem fold_perm {α : Type} (lt : α → α → Bool) : ∀ (l out : List α), (l.foldl (fun out x => insL lt x out) out).Perm (l ++ out)
  | [], out => .refl _
  | x :: l, out => by
    rw [List.foldl_cons]
    refine (fold_perm lt l _).trans ?_
    refine ((insL_perm lt x out).append_left l).trans ?_
    exact List.perm_middle
theorem ot_perm (i : Int) : (ot vs es i).Perm (lv es i) := by
  unfold ot
  have := fold_perm (ltH vs es i) (lv es i) []
  rwa [List.append_nil] at this
theorem fold_sort (hV : FlV vs) (hE : FlE vs es) {i : Int} : ∀ (l out : List Hf), (l ++ out).Nodup → (∀ x ∈ l ++ out, x ∈ lv es i) → out.Pairwise (fun a b => ltH vs es i a b = true) → (l.foldl (fun out x => insL (ltH vs es i) x out) out).Pairwise fun a b => ltH vs es i a b = true
  | [], out, _, _, h => h
  | x :: l, out, hn, hm, h => by
    rw [List.foldl_cons]
    have hp : (l ++ insL (ltH vs es i) x out).Perm (x :: l ++ out) := ((insL_perm _ x out).append_left l).trans List.perm_middle
    refine fold_sort hV hE l _ (hp.nodup_iff.2 hn) (fun y hy => hm y (hp.mem_iff.1 hy)) (insL_sort h (fun y hy k => ?_) fun y hy z hz k q => ?_)
    · refine ltH_total hV hE (hm x (by simp)) (hm y (by simp [hy])) ?_ k
      rintro rfl
      rw [List.cons_append, List.nodup_cons] at hn
      exact hn.1 (by simp [hy])
    · exact ltH_trans hV hE (hm x (by simp)) (hm y (by simp [hy])) (hm z (by simp [hz])) k q
theorem ot_sort (hV : FlV vs) (hE : FlE vs es) (i : Int) : (ot vs es i).Pairwise fun a b => ltH vs es i a b = true := by
  unfold ot
  refine fold_sort hV hE _ _ ?_ (fun x hx => by simpa using hx) (by simp)
  rw [List.append_nil]
  exact lv_nodup hE.rise i
/-- what is sorted, is sorted in one way -/
theorem sort_one {α : Type} {R : α → α → Prop} (hR : ∀ a b, R a b → ¬ R b a) : ∀ {a b : List α}, a.Pairwise R → b.Pairwise R → a.Perm b → a = b
  | [], b, _, _, h => h.nil_eq
  | x :: a, [], _, _, h => by have := h.length_eq; simp at this
  | x :: a, y :: b, ha, hb, h => by
    rw [List.pairwise_cons] at ha hb
    have hxy : x = y := by
      rcases List.mem_cons.1 (h.mem_iff.1 (List.mem_cons_self)) with e | e
      · exact e
      · rcases List.mem_cons.1 (h.mem_iff.2 (List.mem_cons_self)) with k | k
        · exact k.symm
        · exact absurd (ha.1 y k) (hR _ _ (hb.1 x e))
    subst hxy
    rw [sort_one hR ha.2 hb.2 h.cons_inv]
theorem ot_one (hV : FlV vs) (hE : FlE vs es) {i : Int} {l : List Hf} (hp : l.Perm (lv es i)) (hs : l.Pairwise fun a b => ltH vs es i b a = false) : l = ot vs es i := by
  have hn : l.Nodup := hp.nodup_iff.2 (lv_nodup hE.rise i)
  refine sort_one (R := fun a b => ltH vs es i a b = true) (fun a b h k => by rw [ltH_asym h] at k; cases k) ?_ (ot_sort hV hE i) (hp.trans (ot_perm i).symm)
  have h2 := hs.and hn
  rw [List.pairwise_iff_getElem] at h2 ⊢
  intro a b ha hb hab
  obtain ⟨k1, k2⟩ := h2 a b ha hb hab
  exact ltH_total hV hE (hp.mem_iff.1 (List.getElem_mem hb)) (hp.mem_iff.1 (List.getElem_mem ha)) (Ne.symm k2) k1
theorem mem_ot {i : Int} {h : Hf} : h ∈ ot vs es i ↔ h ∈ hfs es ∧ frm es h = i := by rw [(ot_perm i).mem_iff, mem_lv]
theorem ot_nodup (hE : FlE vs es) (i : Int) : (ot vs es i).Nodup := (ot_perm i).nodup_iff.2 (lv_nodup hE.rise i)
end
end Go.Proofs.Ytibnackmddigaaa.Pl