
/- The mathematics of a pool: frames by when they were used, and what each call makes of them. It speaks of no function. -/
import Derived.Lib.Hide
namespace Go.Proofs.Ytjncmaaofminkaa
set_option linter.unusedVariables false
set_option linter.unusedSimpArgs false

structure RF where
  no : Int
  s : ByteArray
  dirty : Bool
  pins : Nat
def look (R : List RF) (no : Int) : Option RF := R.find? fun f => f.no == no
def del (R : List RF) (no : Int) : List RF := R.filter fun f => f.no != no
def free (f : RF) : Bool := !f.dirty && f.pins == 0
def victim (R : List RF) : Option RF := R.find? free
def roomR (R : List RF) (n : Nat) : Option (List RF) := if R.length < n then some R else (victim R).map fun v => del R v.no
def getR (R : List RF) (no : Int) : (ByteArray × Bool) × List RF := match look R no with
  | none => ((⟨#[]⟩, false), R)
  | some f => ((f.s, true), del R no ++ [f])
def addR (R : List RF) (n : Nat) (no : Int) (s : ByteArray) (d : Bool) : Int × List RF := match roomR R n with
  | none => (8, R)
  | some R' => (0, R' ++ [⟨no, s, d, 0⟩])
def putR (R : List RF) (n : Nat) (no : Int) (s : ByteArray) : Int × List RF := match look R no with
  | some _ => (7, R)
  | none => addR R n no s false
def setR (R : List RF) (n : Nat) (no : Int) (s : ByteArray) : Int × List RF := match look R no with
  | some f => (0, del R no ++ [⟨no, s, true, f.pins⟩])
  | none => addR R n no s true
def upd (R : List RF) (no : Int) (g : RF → RF) : List RF := R.map fun f => if f.no == no then g f else f
def up (f : RF) : RF := ⟨f.no, f.s, f.dirty, f.pins + 1⟩
def down (f : RF) : RF := ⟨f.no, f.s, f.dirty, f.pins - 1⟩
def clean (f : RF) : RF := ⟨f.no, f.s, false, f.pins⟩
def pinR (R : List RF) (no : Int) : Bool × List RF := match look R no with
  | none => (false, R)
  | some _ => (true, upd R no up)
def unpinR (R : List RF) (no : Int) : Bool × List RF := match look R no with
  | none => (false, R)
  | some f => if f.pins = 0 then (false, R) else (true, upd R no down)
def cleanR (R : List RF) : List RF := R.map clean
def dropR (R : List RF) : List RF := R.filter fun f => !f.dirty
def sortI (l : List Int) : List Int := l.mergeSort fun x y => decide (x ≤ y)
def dirtyR (R : List RF) : List Int := sortI ((R.filter (·.dirty)).map (·.no))

structure OkR (R : List RF) (n c : Nat) : Prop where
  nos : (R.map (·.no)).Nodup
  few : R.length ≤ n
  pins : ∀ f ∈ R, f.pins ≤ c
  size : ∀ f ∈ R, f.s.size ≤ 281474976710656

theorem look_none {R : List RF} {no : Int} (h : look R no = none) : no ∉ R.map (·.no) := by
  intro hm
  obtain ⟨f, hf, rfl⟩ := List.mem_map.1 hm
  have := List.find?_eq_none.1 h f hf
  simp at this
theorem look_not {R : List RF} {no : Int} (h : no ∉ R.map (·.no)) : look R no = none := by
  refine List.find?_eq_none.2 fun f hf => ?_
  have : f.no ≠ no := fun e => h (by rw [← e]; exact List.mem_map.2 ⟨f, hf, rfl⟩)
  simpa using this
theorem look_some {R : List RF} {no : Int} {f : RF} (h : look R no = some f) : f.no = no ∧ ∃ S T, R = S ++ f :: T := by
  have h1 := List.find?_some h
  have h2 := List.mem_of_find?_eq_some h
  exact ⟨by simpa using h1, List.append_of_mem h2⟩
theorem nos_apart {S T : List RF} {f : RF} (h : ((S ++ f :: T).map (·.no)).Nodup) : (∀ x ∈ S, x.no ≠ f.no) ∧ (∀ x ∈ T, x.no ≠ f.no) := by
  rw [List.map_append, List.map_cons, List.nodup_append, List.nodup_cons] at h
  exact ⟨fun x hx => h.2.2 x.no (List.mem_map.2 ⟨x, hx, rfl⟩) f.no (by simp), fun x hx e => h.2.1.1 (by rw [← e]; exact List.mem_map.2 ⟨x, hx, rfl⟩)⟩
theorem look_at {S T : List RF} {f : RF} (h : ((S ++ f :: T).map (·.no)).Nodup) : look (S ++ f :: T) f.no = some f := by
  unfold look
  rw [List.find?_append, List.find?_eq_none.2 fun x hx => by simpa using (nos_apart h).1 x hx]
  simp
theorem del_at {S T : List RF} {f : RF} (h : ((S ++ f :: T).map (·.no)).Nodup) : del (S ++ f :: T) f.no = S ++ T := by
  unfold del
  rw [List.filter_append, List.filter_cons, List.filter_eq_self.2 fun x hx => by simpa using (nos_apart h).1 x hx]
  have : T.filter (fun x => x.no != f.no) = T := List.filter_eq_self.2 fun x hx => by simpa using (nos_apart h).2 x hx
  simp [this]
theorem upd_at {S T : List RF} {f : RF} (h : ((S ++ f :: T).map (·.no)).Nodup) (g : RF → RF) : upd (S ++ f :: T) f.no g = S ++ g f :: T := by
  unfold upd
  rw [List.map_append, List.map_cons]
  have h1 : ∀ (l : List RF), (∀ x ∈ l, x.no ≠ f.no) → l.map (fun x => if x.no == f.no then g x else x) = l := fun l hl =>
    (List.map_congr_left (g := id) fun x hx => by have := hl x hx; simp [this]).trans (by simp)
  rw [h1 S (nos_apart h).1, h1 T (nos_apart h).2]
  simp
theorem victim_some {R : List RF} {v : RF} (h : victim R = some v) : free v = true ∧ ∃ S T, R = S ++ v :: T ∧ ∀ x ∈ S, free x = false := by
  obtain ⟨h1, S, T, h2, h3⟩ := List.find?_eq_some_iff_append.1 h
  exact ⟨h1, S, T, h2, fun x hx => by simpa using h3 x hx⟩
theorem victim_none {R : List RF} (h : victim R = none) : ∀ x ∈ R, free x = false := fun x hx => by simpa using List.find?_eq_none.1 h x hx

theorem OkR.more {R : List RF} {n c : Nat} (h : OkR R n c) (d : Nat) (hd : c ≤ d) : OkR R n d := ⟨h.nos, h.few, fun f hf => Nat.le_trans (h.pins f hf) hd, h.size⟩
theorem OkR.sub {R R' : List RF} {n c : Nat} (h : OkR R n c) (hs : R'.Sublist R) : OkR R' n c := ⟨(hs.map _).nodup h.nos, Nat.le_trans hs.length_le h.few, fun f hf => h.pins f (hs.subset hf), fun f hf => h.size f (hs.subset hf)⟩
theorem OkR.perm {R R' : List RF} {n c : Nat} (h : OkR R n c) (hp : R.Perm R') : OkR R' n c := ⟨(hp.map _).nodup_iff.1 h.nos, by rw [← hp.length_eq]; exact h.few, fun f hf => h.pins f (hp.mem_iff.2 hf), fun f hf => h.size f (hp.mem_iff.2 hf)⟩
theorem OkR.turn {S T : List RF} {f g : RF} {n c : Nat} (h : OkR (S ++ f :: T) n c) (hn : g.no = f.no) (hp : g.pins ≤ c) (hs : g.s.size ≤ 281474976710656) : OkR (S ++ g :: T) n c := by
  refine ⟨?_, by simpa using h.few, fun x hx => ?_, fun x hx => ?_⟩
  · have := h.nos
    rw [List.map_append, List.map_cons] at this ⊢
    rw [hn]
    exact this
  · rcases List.mem_append.1 hx with hx | hx
    · exact h.pins x (by simp [hx])
    · rcases List.mem_cons.1 hx with rfl | hx
      · exact hp
      · exact h.pins x (by simp [hx])
  · rcases List.mem_append.1 hx with hx | hx
    · exact h.size x (by simp [hx])
    · rcases List.mem_cons.1 hx with rfl | hx
      · exact hs
      · exact h.size x (by simp [hx])
theorem del_sub (R : List RF) (no : Int) : (del R no).Sublist R := List.filter_sublist
theorem roomR_ok {R R' : List RF} {n c : Nat} (h : OkR R n c) (hr : roomR R n = some R') : R'.Sublist R ∧ R'.length < n := by
  unfold roomR at hr
  split at hr
  · injection hr with hr; subst hr; exact ⟨List.Sublist.refl _, by assumption⟩
  · cases hv : victim R with
    | none => rw [hv] at hr; cases hr
    | some v =>
      rw [hv] at hr
      injection hr with hr
      subst hr
      obtain ⟨_, S, T, rfl, _⟩ := victim_some hv
      refine ⟨del_sub _ _, ?_⟩
      show (del (S ++ v :: T) v.no).length < n
      rw [del_at h.nos]
      have := h.few
      simp at this ⊢
      omega
theorem addR_ok {R : List RF} {n c : Nat} (h : OkR R n c) {no : Int} {s : ByteArray} {d : Bool} (hn : no ∉ R.map (·.no)) (hs : s.size ≤ 281474976710656) : OkR (addR R n no s d).2 n c := by
  unfold addR
  cases hr : roomR R n with
  | none => exact h
  | some R' =>
    obtain ⟨h1, h2⟩ := roomR_ok h hr
    have h3 := h.sub h1
    refine ⟨?_, by simp; omega, fun f hf => ?_, fun f hf => ?_⟩
    · show ((R' ++ [(⟨no, s, d, 0⟩ : RF)]).map (·.no)).Nodup
      rw [List.map_append, List.nodup_append]
      refine ⟨h3.nos, by simp, ?_⟩
      intro x hx y hy
      simp at hy
      subst hy
      rintro rfl
      exact hn ((h1.map _).subset hx)
    · rcases List.mem_append.1 hf with hf | hf
      · exact h3.pins f hf
      · simp at hf; subst hf; exact Nat.zero_le _
    · rcases List.mem_append.1 hf with hf | hf
      · exact h3.size f hf
      · simp at hf; subst hf; exact hs
theorem perm_end {S T : List RF} {f : RF} : (S ++ f :: T).Perm (S ++ T ++ [f]) := by
  rw [List.append_assoc]
  refine List.Perm.append_left S ?_
  exact (List.perm_append_singleton f T).symm
theorem getR_ok {R : List RF} {n c : Nat} (h : OkR R n c) (no : Int) : OkR (getR R no).2 n c := by
  unfold getR
  cases hl : look R no with
  | none => exact h
  | some f =>
    obtain ⟨rfl, S, T, rfl⟩ := look_some hl
    show OkR (del _ _ ++ [f]) n c
    rw [del_at h.nos]
    exact h.perm perm_end
theorem putR_ok {R : List RF} {n c : Nat} (h : OkR R n c) (no : Int) {s : ByteArray} (hs : s.size ≤ 281474976710656) : OkR (putR R n no s).2 n c := by
  unfold putR
  cases hl : look R no with
  | some f => exact h
  | none => exact addR_ok h (look_none hl) hs
theorem setR_ok {R : List RF} {n c : Nat} (h : OkR R n c) (no : Int) {s : ByteArray} (hs : s.size ≤ 281474976710656) : OkR (setR R n no s).2 n c := by
  unfold setR
  cases hl : look R no with
  | none => exact addR_ok h (look_none hl) hs
  | some f =>
    obtain ⟨rfl, S, T, rfl⟩ := look_some hl
    show OkR (del _ _ ++ [_]) n c
    rw [del_at h.nos]
    exact (h.turn (g := ⟨f.no, s, true, f.pins⟩) rfl (h.pins f (by simp)) hs).perm perm_end
theorem pinR_ok {R : List RF} {n c : Nat} (h : OkR R n c) (no : Int) : OkR (pinR R no).2 n (c + 1) := by
  unfold pinR
  cases hl : look R no with
  | none => exact h.more _ (by omega)
  | some f =>
    obtain ⟨rfl, S, T, rfl⟩ := look_some hl
    show OkR (upd _ _ _) n (c + 1)
    rw [upd_at h.nos]
    exact (h.more (c + 1) (by omega)).turn rfl (by have := h.pins f (by simp); show f.pins + 1 ≤ c + 1; omega) (h.size f (by simp))
theorem unpinR_ok {R : List RF} {n c : Nat} (h : OkR R n c) (no : Int) : OkR (unpinR R no).2 n c := by
  unfold unpinR
  cases hl : look R no with
  | none => exact h
  | some f =>
    obtain ⟨rfl, S, T, rfl⟩ := look_some hl
    simp only
    split
    · exact h
    · show OkR (upd _ _ _) n c
      rw [upd_at h.nos]
      exact h.turn rfl (by have := h.pins f (by simp); show f.pins - 1 ≤ c; omega) (h.size f (by simp))
theorem cleanR_ok {R : List RF} {n c : Nat} (h : OkR R n c) : OkR (cleanR R) n c := by
  refine ⟨?_, by simpa [cleanR] using h.few, fun f hf => ?_, fun f hf => ?_⟩
  · have : (cleanR R).map (·.no) = R.map (·.no) := by simp [cleanR, clean]
    rw [this]
    exact h.nos
  · obtain ⟨g, hg, rfl⟩ := List.mem_map.1 hf
    exact h.pins g hg
  · obtain ⟨g, hg, rfl⟩ := List.mem_map.1 hf
    exact h.size g hg
theorem dropR_ok {R : List RF} {n c : Nat} (h : OkR R n c) : OkR (dropR R) n c := h.sub List.filter_sublist

theorem sortI_perm {l l' : List Int} (h : l.Perm l') : sortI l = sortI l' := by
  unfold sortI
  have h1 : (l.mergeSort fun x y => decide (x ≤ y)).Pairwise (· ≤ ·) := by
    have := List.pairwise_mergeSort (le := fun (x y : Int) => decide (x ≤ y)) (fun a b c h1 h2 => by simp at *; omega) (fun a b => by simp; omega) l
    exact this.imp fun h => by simpa using h
  have h2 : (l'.mergeSort fun x y => decide (x ≤ y)).Pairwise (· ≤ ·) := by
    have := List.pairwise_mergeSort (le := fun (x y : Int) => decide (x ≤ y)) (fun a b c h1 h2 => by simp at *; omega) (fun a b => by simp; omega) l'
    exact this.imp fun h => by simpa using h
  have h3 := ((List.mergeSort_perm l fun x y => decide (x ≤ y)).trans h).trans (List.mergeSort_perm l' fun x y => decide (x ≤ y)).symm
  exact h3.eq_of_pairwise (fun a b _ _ h1 h2 => by omega) h1 h2
end Go.Proofs.Ytjncmaaofminkaa
