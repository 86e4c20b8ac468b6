
/- A frame that is dirty, or pinned, stays: what each call of a pool leaves of it. Conditions: those that each theorem names. -/
import Derived.Test.YtjncmaaofminkaaPooH
namespace Go.Proofs.Ytjncmaaofminkaa
open Go.ChangeShapes Go.WideShapes Go.ChangeAt Go.RowKit
set_option linter.unusedVariables false
set_option linter.unusedSimpArgs false

def Held (f : RF) (no : Int) (s : ByteArray) (pin : Bool) : Prop := f.no = no ∧ f.s = s ∧ ((pin = true ∧ 1 ≤ f.pins ∧ f.dirty = false) ∨ (pin = false ∧ f.dirty = true))
def Kept (R : List RF) (no : Int) (s : ByteArray) (pin : Bool) : Prop := ∃ f ∈ R, Held f no s pin
section
variable {R : List RF} {n c : Nat} {no : Int} {s : ByteArray} {pin : Bool}
theorem Held.stays {f : RF} (h : Held f no s pin) : free f = false := by
  obtain ⟨_, _, ⟨_, h1, h2⟩ | ⟨_, h1⟩⟩ := h
  · unfold free; rw [h2]; simp; omega
  · unfold free; rw [h1]; simp
theorem mem_end {S T : List RF} {f x : RF} (h : x ∈ S ++ f :: T) : x ∈ S ++ T ++ [f] := (perm_end.mem_iff).1 h
theorem Kept.get_ (h : Kept R no s pin) (hR : OkR R n c) (i : Int) : Kept (getR R i).2 no s pin := by
  unfold getR
  cases hl : look R i with
  | none => exact h
  | some g =>
    obtain ⟨f, hf, hh⟩ := h
    obtain ⟨rfl, S, T, rfl⟩ := look_some hl
    refine ⟨f, ?_, hh⟩
    show f ∈ del _ _ ++ [g]
    rw [del_at hR.nos]
    exact mem_end hf
theorem mem_one : ∀ {l : List RF}, (l.map (·.no)).Nodup → ∀ {x y : RF}, x ∈ l → y ∈ l → x.no = y.no → x = y := nodup_inj
theorem Kept.room_ (h : Kept R no s pin) (hR : OkR R n c) {R' : List RF} (hr : roomR R n = some R') : Kept R' no s pin := by
  obtain ⟨f, hf, hh⟩ := h
  unfold roomR at hr
  split at hr
  · injection hr with hr; subst hr; exact ⟨f, hf, hh⟩
  · cases hv : victim R with
    | none => rw [hv] at hr; cases hr
    | some v =>
      rw [hv] at hr
      injection hr with hr
      subst hr
      refine ⟨f, List.mem_filter.2 ⟨hf, ?_⟩, hh⟩
      obtain ⟨hfree, S, T, rfl, _⟩ := victim_some hv
      have hne : f.no ≠ v.no := fun e => by
        have := mem_one hR.nos hf (by simp) e
        rw [this] at hh
        rw [hh.stays] at hfree
        cases hfree
      simpa using hne
theorem Kept.add_ (h : Kept R no s pin) (hR : OkR R n c) (i : Int) (t : ByteArray) (d : Bool) : Kept (addR R n i t d).2 no s pin := by
  unfold addR
  cases hr : roomR R n with
  | none => exact h
  | some R' =>
    obtain ⟨f, hf, hh⟩ := h.room_ hR hr
    exact ⟨f, List.mem_append_left _ hf, hh⟩
theorem Kept.put_ (h : Kept R no s pin) (hR : OkR R n c) (i : Int) (t : ByteArray) : Kept (putR R n i t).2 no s pin := by
  unfold putR
  cases hl : look R i with
  | some g => exact h
  | none => exact h.add_ hR i t false
theorem Kept.set_ (h : Kept R no s pin) (hR : OkR R n c) (i : Int) (hi : i ≠ no) (t : ByteArray) : Kept (setR R n i t).2 no s pin := by
  unfold setR
  cases hl : look R i with
  | none => exact h.add_ hR i t true
  | some g =>
    obtain ⟨f, hf, hh⟩ := h
    refine ⟨f, List.mem_append_left _ (List.mem_filter.2 ⟨hf, ?_⟩), hh⟩
    rw [hh.1]
    simpa using fun e => hi e.symm
theorem Kept.upd_ (h : Kept R no s pin) (i : Int) (g : RF → RF) (hg : ∀ f, Held f no s pin → i = no → Held (g f) no s pin) : Kept (upd R i g) no s pin := by
  obtain ⟨f, hf, hh⟩ := h
  unfold upd
  by_cases e : i = no
  · refine ⟨g f, List.mem_map.2 ⟨f, hf, by rw [hh.1, e]; simp⟩, hg f hh e⟩
  · refine ⟨f, List.mem_map.2 ⟨f, hf, ?_⟩, hh⟩
    have : (f.no == i) = false := by rw [hh.1]; simpa using fun h => e h.symm
    rw [this]; rfl
theorem Kept.pin_ (h : Kept R no s pin) (i : Int) : Kept (pinR R i).2 no s pin := by
  unfold pinR
  cases hl : look R i with
  | none => exact h
  | some g => exact h.upd_ i up fun f hf _ => ⟨hf.1, hf.2.1, hf.2.2.imp (fun ⟨a, b, c⟩ => ⟨a, by show 1 ≤ f.pins + 1; omega, c⟩) id⟩
theorem Kept.unpin_ (h : Kept R no s pin) (i : Int) (hi : i ≠ no) : Kept (unpinR R i).2 no s pin := by
  unfold unpinR
  cases hl : look R i with
  | none => exact h
  | some g =>
    simp only
    split
    · exact h
    · exact h.upd_ i down fun f hf e => absurd e hi
theorem Kept.clean_ (h : Kept R no s true) : Kept (cleanR R) no s true := by
  obtain ⟨f, hf, h1, h2, ⟨_, h3, h4⟩ | ⟨h3, _⟩⟩ := h
  · exact ⟨clean f, List.mem_map.2 ⟨f, hf, rfl⟩, h1, h2, .inl ⟨rfl, h3, rfl⟩⟩
  · cases h3
theorem Kept.drop_ (h : Kept R no s true) : Kept (dropR R) no s true := by
  obtain ⟨f, hf, h1, h2, ⟨_, h3, h4⟩ | ⟨h3, _⟩⟩ := h
  · exact ⟨f, List.mem_filter.2 ⟨hf, by rw [h4]; rfl⟩, h1, h2, .inl ⟨rfl, h3, h4⟩⟩
  · cases h3
theorem Kept.mine (h : Kept R no s pin) (hR : OkR R n c) : (getR R no).1 = (s, true) := by
  obtain ⟨f, hf, h1, h2, _⟩ := h
  obtain ⟨S, T, rfl⟩ := List.append_of_mem hf
  unfold getR
  rw [← h1, look_at hR.nos, ← h2]
end
/-- a pool that keeps a frame -/
def KK (w : World) (B p k c : Nat) (no : Int) (s : ByteArray) (pin : Bool) : Prop := ∃ R, PoolAt w B p k c R ∧ Kept R no s pin
section
variable {w w' : World} {B p k c : Nat} {no : Int} {s : ByteArray} {pin : Bool}
theorem KK.below (h : KK w B p k c no s pin) (hb : Below w.heap.size w w') : KK w' B p k c no s pin := by
  obtain ⟨R, h1, h2⟩ := h
  exact ⟨R, h1.below hb, h2⟩
theorem KK.more (h : KK w B p k c no s pin) : KK w B p k (c + 1) no s pin := by
  obtain ⟨R, h1, h2⟩ := h
  exact ⟨R, h1.more (Nat.le_succ c), h2⟩
theorem KK.base (h : KK w B p k c no s pin) : B ≤ w.heap.size := by
  obtain ⟨R, h1, h2⟩ := h
  exact h1.base
theorem KK.get_ (h : KK w B p k c no s pin) (i : Int) (hc : c < 1000000) : Calls Try.prog 11 #[.pointer (some ⟨p, 0, none⟩), .int .i64 i] w fun e w' =>
    ∃ t b, e = .returned (.tuple #[.string t, .bool b]) ∧ KK w' B p k (c + 1) no s pin ∧ Below B w w' := by
  obtain ⟨R, h1, h2⟩ := h
  refine (get_any h1 i hc).mono ?_
  rintro e w' ⟨rfl, h3, h4⟩
  exact ⟨_, _, rfl, ⟨_, h3, h2.get_ h1.ok i⟩, chgPT h4 h1.base⟩
theorem KK.mine (h : KK w B p k c no s pin) (hc : c < 1000000) : Calls Try.prog 11 #[.pointer (some ⟨p, 0, none⟩), .int .i64 no] w fun e w' =>
    e = .returned (.tuple #[.string s, .bool true]) ∧ KK w' B p k (c + 1) no s pin ∧ Below B w w' := by
  obtain ⟨R, h1, h2⟩ := h
  have := get_any h1 no hc
  rw [h2.mine h1.ok] at this
  refine this.mono ?_
  rintro e w' ⟨rfl, h3, h4⟩
  exact ⟨rfl, ⟨_, h3, h2.get_ h1.ok no⟩, chgPT h4 h1.base⟩
theorem KK.put_ (h : KK w B p k c no s pin) (i : Int) (t : ByteArray) (ht : t.size ≤ 281474976710656) (hc : c < 1000000) : Calls Try.prog 12 #[.pointer (some ⟨p, 0, none⟩), .int .i64 i, .string t] w fun e w' =>
    ∃ r, e = .returned (.int .i64 r) ∧ KK w' B p k (c + 1) no s pin ∧ Below B w w' := by
  obtain ⟨R, h1, h2⟩ := h
  refine (put_any h1 i t ht hc).mono ?_
  rintro e w' ⟨rfl, h3, h4⟩
  exact ⟨_, rfl, ⟨_, h3, h2.put_ h1.ok i t⟩, chgPT h4 h1.base⟩
theorem KK.set_ (h : KK w B p k c no s pin) (i : Int) (hi : i ≠ no) (t : ByteArray) (ht : t.size ≤ 281474976710656) (hc : c < 1000000) : Calls Try.prog 8 #[.pointer (some ⟨p, 0, none⟩), .int .i64 i, .string t] w fun e w' =>
    ∃ r, e = .returned (.int .i64 r) ∧ KK w' B p k (c + 1) no s pin ∧ Below B w w' := by
  obtain ⟨R, h1, h2⟩ := h
  refine (set_any h1 i t ht hc).mono ?_
  rintro e w' ⟨rfl, h3, h4⟩
  exact ⟨_, rfl, ⟨_, h3, h2.set_ h1.ok i hi t⟩, chgPT h4 h1.base⟩
theorem KK.pin_ (h : KK w B p k c no s pin) (i : Int) (hc : c < 1000000) : Calls Try.prog 9 #[.pointer (some ⟨p, 0, none⟩), .int .i64 i] w fun e w' =>
    ∃ b, e = .returned (.bool b) ∧ KK w' B p k (c + 1) no s pin ∧ Below B w w' := by
  obtain ⟨R, h1, h2⟩ := h
  refine (pin_any h1 i hc).mono ?_
  rintro e w' ⟨rfl, h3, h4⟩
  exact ⟨_, rfl, ⟨_, h3, h2.pin_ i⟩, chgPT h4 h1.base⟩
theorem KK.unpin_ (h : KK w B p k c no s pin) (i : Int) (hi : i ≠ no) (hc : c < 1000000) : Calls Try.prog 13 #[.pointer (some ⟨p, 0, none⟩), .int .i64 i] w fun e w' =>
    ∃ b, e = .returned (.bool b) ∧ KK w' B p k (c + 1) no s pin ∧ Below B w w' := by
  obtain ⟨R, h1, h2⟩ := h
  refine (unpin_any h1 i hc).mono ?_
  rintro e w' ⟨rfl, h3, h4⟩
  exact ⟨_, rfl, ⟨_, h3, h2.unpin_ i hi⟩, chgPT h4 h1.base⟩
theorem KK.clean_ (h : KK w B p k c no s true) : Calls Try.prog 10 #[.pointer (some ⟨p, 0, none⟩)] w fun e w' =>
    e = .returned (.tuple #[]) ∧ KK w' B p k (c + 1) no s true ∧ Below B w w' := by
  obtain ⟨R, h1, h2⟩ := h
  refine (clean_any h1).mono ?_
  rintro e w' ⟨rfl, h3, h4⟩
  exact ⟨rfl, ⟨_, h3.more (Nat.le_succ c), h2.clean_⟩, chgPT h4 h1.base⟩
theorem KK.drop_ (h : KK w B p k c no s true) : Calls Try.prog 14 #[.pointer (some ⟨p, 0, none⟩)] w fun e w' =>
    e = .returned (.tuple #[]) ∧ KK w' B p k (c + 1) no s true ∧ Below B w w' := by
  obtain ⟨R, h1, h2⟩ := h
  refine (drop_any h1).mono ?_
  rintro e w' ⟨rfl, h3, h4⟩
  exact ⟨rfl, ⟨_, h3.more (Nat.le_succ c), h2.drop_⟩, chgPT h4 h1.base⟩
theorem KK.len_ (h : KK w B p k c no s pin) : Calls Try.prog 15 #[.pointer (some ⟨p, 0, none⟩)] w fun e w' => ∃ m : Nat, e = .returned (.int .i64 (m : Int)) ∧ m ≤ k ∧ w = w' := by
  obtain ⟨R, h1, h2⟩ := h
  refine (len_any h1).mono ?_
  rintro e w' ⟨rfl, rfl⟩
  exact ⟨_, rfl, h1.ok.few, rfl⟩
end
end Go.Proofs.Ytjncmaaofminkaa
