import Derived.Lib.Hide
import Derived.Test.YthijgebmoadgkaaGreatDoorMapM
import Derived.Test.YthijgebmoadgkaaGreatDoorCrcB
import Derived.Test.YthijgebmoadgkaaGreatDoorDisB
import Derived.WalkLawsBesides
set_option linter.unusedVariables false
set_option linter.unusedSimpArgs false
section
namespace Go.Proofs.YthijgebmoadgkaaGreatDoor.Po
structure RF where
 no : Int
 s : ByteArray
 dirty : Bool
 pins : Nat
def look (R : List RF) (no : Int) : Option RF := R.find? fun f => f.no == no
def del (R : List RF) (no : Int) : List RF := R.filter fun f => f.no != no
def free (f : RF) : Bool := !f.dirty && f.pins == 0
def victim (R : List RF) : Option RF := R.find? free
def roomR (R : List RF) (n : Nat) : Option (List RF) := if R.length < n then some R else (victim R).map fun v => del R v.no
def getR (R : List RF) (no : Int) : (ByteArray × Bool) × List RF := match look R no with
 | none => ((⟨#[]⟩, false), R)
 | some f => ((f.s, true), del R no ++ [f])
def addR (R : List RF) (n : Nat) (no : Int) (s : ByteArray) (d : Bool) : Int × List RF := match roomR R n with
 | none => (8, R)
 | some R' => (0, R' ++ [⟨no, s, d, 0⟩])
def putR (R : List RF) (n : Nat) (no : Int) (s : ByteArray) : Int × List RF := match look R no with
 | some _ => (7, R)
 | none => addR R n no s false
def setR (R : List RF) (n : Nat) (no : Int) (s : ByteArray) : Int × List RF := match look R no with
 | some f => (0, del R no ++ [⟨no, s, true, f.pins⟩])
 | none => addR R n no s true
def up (f : RF) : RF := ⟨f.no, f.s, f.dirty, f.pins + 1⟩
def down (f : RF) : RF := ⟨f.no, f.s, f.dirty, f.pins - 1⟩
def clean (f : RF) : RF := ⟨f.no, f.s, false, f.pins⟩
def cleanR (R : List RF) : List RF := R.map clean
def dropR (R : List RF) : List RF := R.filter fun f => !f.dirty
def sortI (l : List Int) : List Int := l.mergeSort fun x y => decide (x <= y)
def dirtyR (R : List RF) : List Int := sortI ((R.filter (·.dirty)).map (·.no))
structure OkR (R : List RF) (n c : Nat) : Prop where
 nos : (R.map (·.no)).Nodup
 few : R.length <= n
 pins : ∀ f ∈ R, f.pins <= c
 size : ∀ f ∈ R, f.s.size <= 281474976710656
theorem look_none {R : List RF} {no : Int} (h : look R no = none) : no ∉ R.map (·.no) := by
 intro hm;obtain ⟨f, hf, rfl⟩ := List.mem_map.1 hm;have := List.find?_eq_none.1 h f hf;simp at this
theorem look_some {R : List RF} {no : Int} {f : RF} (h : look R no = some f) : f.no = no /\ ∃ S T, R = S ++ f :: T := by
 have h1 := List.find?_some h;have h2 := List.mem_of_find?_eq_some h;exact ⟨by simpa using h1, List.append_of_mem h2⟩
theorem Uy {S T : List RF} {f : RF} (h : ((S ++ f :: T).map (·.no)).Nodup) : (∀ x ∈ S, x.no ≠ f.no) /\ (∀ x ∈ T, x.no ≠ f.no) := by
 rw [List.map_append, List.map_cons, List.nodup_append, List.nodup_cons] at h;exact ⟨fun x hx => h.2.2 x.no (List.mem_map.2 ⟨x, hx, rfl⟩) f.no (by simp), fun x hx e => h.2.1.1 (by rw [<- e]; exact List.mem_map.2 ⟨x, hx, rfl⟩)⟩
theorem look_at {S T : List RF} {f : RF} (h : ((S ++ f :: T).map (·.no)).Nodup) : look (S ++ f :: T) f.no = some f := by
 unfold look;rw [List.find?_append, List.find?_eq_none.2 fun x hx => by simpa using (Uy h).1 x hx];simp
theorem del_at {S T : List RF} {f : RF} (h : ((S ++ f :: T).map (·.no)).Nodup) : del (S ++ f :: T) f.no = S ++ T := by
 unfold del;rw [List.filter_append, List.filter_cons, List.filter_eq_self.2 fun x hx => by simpa using (Uy h).1 x hx];have : T.filter (fun x => x.no != f.no) = T := List.filter_eq_self.2 fun x hx => by simpa using (Uy h).2 x hx
 simp [this]
theorem victim_some {R : List RF} {v : RF} (h : victim R = some v) : free v = true /\ ∃ S T, R = S ++ v :: T /\ ∀ x ∈ S, free x = false := by
 obtain ⟨h1, S, T, h2, h3⟩ := List.find?_eq_some_iff_append.1 h;exact ⟨h1, S, T, h2, fun x hx => by simpa using h3 x hx⟩
theorem zC5 {R : List RF} (h : victim R = none) : ∀ x ∈ R, free x = false := fun x hx => by simpa using List.find?_eq_none.1 h x hx
theorem OkR.more {R : List RF} {n c : Nat} (h : OkR R n c) (d : Nat) (hd : c <= d) : OkR R n d := ⟨h.nos, h.few, fun f hf => Nat.le_trans (h.pins f hf) hd, h.size⟩
theorem OkR.sub {R R' : List RF} {n c : Nat} (h : OkR R n c) (hs : R'.Sublist R) : OkR R' n c := ⟨(hs.map _).nodup h.nos, Nat.le_trans hs.length_le h.few, fun f hf => h.pins f (hs.subset hf), fun f hf => h.size f (hs.subset hf)⟩
theorem OkR.perm {R R' : List RF} {n c : Nat} (h : OkR R n c) (hp : R.Perm R') : OkR R' n c := ⟨(hp.map _).nodup_iff.1 h.nos, by rw [<- hp.length_eq]; exact h.few, fun f hf => h.pins f (hp.mem_iff.2 hf), fun f hf => h.size f (hp.mem_iff.2 hf)⟩
theorem OkR.turn {S T : List RF} {f g : RF} {n c : Nat} (h : OkR (S ++ f :: T) n c) (hn : g.no = f.no) (hp : g.pins <= c) (hs : g.s.size <= 281474976710656) : OkR (S ++ g :: T) n c := by
 refine ⟨?_, by simpa using h.few, fun x hx => ?_, fun x hx => ?_⟩
 · have := h.nos;rw [List.map_append, List.map_cons] at this ⊢;rw [hn];exact this
 · rcases List.mem_append.1 hx with hx | hx
   · exact h.pins x (by simp [hx])
   · rcases List.mem_cons.1 hx with rfl | hx
     · exact hp
     · exact h.pins x (by simp [hx])
 · rcases List.mem_append.1 hx with hx | hx
   · exact h.size x (by simp [hx])
   · rcases List.mem_cons.1 hx with rfl | hx
     · exact hs
     · exact h.size x (by simp [hx])
theorem zNa (R : List RF) (no : Int) : (del R no).Sublist R := List.filter_sublist
theorem zKb {R R' : List RF} {n c : Nat} (h : OkR R n c) (hr : roomR R n = some R') : R'.Sublist R /\ R'.length < n := by
 unfold roomR at hr;split at hr
 · injection hr with hr; subst hr; exact ⟨List.Sublist.refl _, by assumption⟩
 · cases hv : victim R with
   | none => rw [hv] at hr; cases hr
   | some v =>
     rw [hv] at hr;injection hr with hr;subst hr;obtain ⟨_, S, T, rfl, _⟩ := victim_some hv;refine ⟨zNa _ _, ?_⟩;show (del (S ++ v :: T) v.no).length < n
     rw [del_at h.nos];have := h.few;simp at this ⊢;omega
theorem zF3 {R : List RF} {n c : Nat} (h : OkR R n c) {no : Int} {s : ByteArray} {d : Bool} (hn : no ∉ R.map (·.no)) (hs : s.size <= 281474976710656) : OkR (addR R n no s d).2 n c := by
 unfold addR;cases hr : roomR R n with
 | none => exact h
 | some R' =>
   obtain ⟨h1, h2⟩ := zKb h hr;have h3 := h.sub h1;refine ⟨?_, by simp; omega, fun f hf => ?_, fun f hf => ?_⟩
   · show ((R' ++ [(⟨no, s, d, 0⟩ : RF)]).map (·.no)).Nodup
     rw [List.map_append, List.nodup_append];refine ⟨h3.nos, by simp, ?_⟩;intro x hx y hy;simp at hy;subst hy;rintro rfl;exact hn ((h1.map _).subset hx)
   · rcases List.mem_append.1 hf with hf | hf
     · exact h3.pins f hf
     · simp at hf; subst hf; exact Nat.zero_le _
   · rcases List.mem_append.1 hf with hf | hf
     · exact h3.size f hf
     · simp at hf; subst hf; exact hs
theorem perm_end {S T : List RF} {f : RF} : (S ++ f :: T).Perm (S ++ T ++ [f]) := by
 rw [List.append_assoc];refine List.Perm.append_left S ?_;exact (List.perm_append_singleton f T).symm
theorem zLr {R : List RF} {n c : Nat} (h : OkR R n c) (no : Int) : OkR (getR R no).2 n c := by
 unfold getR;cases hl : look R no with
 | none => exact h
 | some f =>
   obtain ⟨rfl, S, T, rfl⟩ := look_some hl;show OkR (del _ _ ++ [f]) n c
   rw [del_at h.nos];exact h.perm perm_end
theorem zNb {R : List RF} {n c : Nat} (h : OkR R n c) (no : Int) {s : ByteArray} (hs : s.size <= 281474976710656) : OkR (setR R n no s).2 n c := by
 unfold setR;cases hl : look R no with
 | none => exact zF3 h (look_none hl) hs
 | some f =>
   obtain ⟨rfl, S, T, rfl⟩ := look_some hl;show OkR (del _ _ ++ [_]) n c
   rw [del_at h.nos];exact (h.turn (g := ⟨f.no, s, true, f.pins⟩) rfl (h.pins f (by simp)) hs).perm perm_end
theorem zIa {R : List RF} {n c : Nat} (h : OkR R n c) : OkR (cleanR R) n c := by
 refine ⟨?_, by simpa [cleanR] using h.few, fun f hf => ?_, fun f hf => ?_⟩
 · have : (cleanR R).map (·.no) = R.map (·.no) := by simp [cleanR, clean]
   rw [this];exact h.nos
 · obtain ⟨g, hg, rfl⟩ := List.mem_map.1 hf;exact h.pins g hg
 · obtain ⟨g, hg, rfl⟩ := List.mem_map.1 hf;exact h.size g hg
theorem zJv {R : List RF} {n c : Nat} (h : OkR R n c) : OkR (dropR R) n c := h.sub List.filter_sublist
theorem sortI_perm {l l' : List Int} (h : l.Perm l') : sortI l = sortI l' := by
 unfold sortI;have h1 : (l.mergeSort fun x y => decide (x <= y)).Pairwise (· <= ·) := by
   have := List.pairwise_mergeSort (le := fun (x y : Int) => decide (x <= y)) (fun a b c h1 h2 => by simp at *; omega) (fun a b => by simp; omega) l;exact this.imp fun h => by simpa using h
 have h2 : (l'.mergeSort fun x y => decide (x <= y)).Pairwise (· <= ·) := by
   have := List.pairwise_mergeSort (le := fun (x y : Int) => decide (x <= y)) (fun a b c h1 h2 => by simp at *; omega) (fun a b => by simp; omega) l';exact this.imp fun h => by simpa using h
 have h3 := ((List.mergeSort_perm l fun x y => decide (x <= y)).trans h).trans (List.mergeSort_perm l' fun x y => decide (x <= y)).symm;exact h3.eq_of_pairwise (fun a b _ _ h1 h2 => by omega) h1 h2
end Go.Proofs.YthijgebmoadgkaaGreatDoor.Po
end
section
namespace Go.Proofs.YthijgebmoadgkaaGreatDoor.Po
open Go.ChangeShapes Go.WideShapes Go.ChangeAt Go.RowKit
structure Fr where
 rf : RF
 used : Nat
 blk : Nat
def ent (f : Fr) : Int × Value := (f.rf.no, .pointer (some ⟨f.blk, 0, none⟩))
def qA (f : Fr) : Array Value := #[.string f.rf.s, .bool f.rf.dirty, .int .i64 (f.rf.pins : Int), .int .i64 (f.used : Int)]
def vP (n m u : Nat) : Array Value := #[.int .i64 (n : Int), .map (some m), .int .i64 (u : Int)]
def qQ (p m : Nat) (L : List Fr) : Nat -> Prop := fun q => q = p \/ q = m \/ q ∈ L.map (·.blk)
structure Mem (w : World) (B p m n u : Nat) (L : List Fr) : Prop where
 own : Own w p 255 (vP n m u)
 map : zW w m .i64 (L.map ent)
 fr : ∀ f ∈ L, Own w f.blk 269 (qA f)
 apart : (L.map (·.blk)).Nodup
 base : ∀ q, qQ p m L q -> B <= q
structure Ord (u : Nat) (L : List Fr) : Prop where
 rise : L.Pairwise fun f g => f.used < g.used
 last : ∀ f ∈ L, f.used <= u
section
variable {w w' : World} {B p m n u : Nat} {L : List Fr}
theorem Mem.perm {L' : List Fr} (h : Mem w B p m n u L) (hp : L.Perm L') : Mem w B p m n u L' :=
 ⟨h.own, h.map.perm (hp.map _), fun f hf => h.fr f (hp.mem_iff.2 hf), (hp.map _).nodup_iff.1 h.apart, fun q hq => h.base q (hq.imp_right fun h => h.imp_right fun h => (hp.map _).mem_iff.2 h)⟩
theorem Mem.nos (h : Mem w B p m n u L) : ((L.map (·.rf)).map (·.no)).Nodup := by
 have := h.map.nodup;rw [List.map_map] at this ⊢;exact this
theorem Mem.ne_map (h : Mem w B p m n u L) : m ≠ p := h.map.ne h.own
theorem Mem.ne_fr (h : Mem w B p m n u L) {f : Fr} (hf : f ∈ L) : m ≠ f.blk := h.map.ne (h.fr f hf)
theorem zKh {w : World} {p q : Nat} {T T' : TypeId} {cs cs' : Array Value} (h : Own w p T cs) (k : Own w q T' cs') (hT : T ≠ T') : p ≠ q := by
 rintro rfl;unfold Own at h k;rw [h] at k;injection k with k;injection k with k1 k2;exact hT k2
theorem Mem.ne_p (h : Mem w B p m n u L) {f : Fr} (hf : f ∈ L) : f.blk ≠ p := zKh (h.fr f hf) h.own (by decide)
theorem Mem.in_ (h : Mem w B p m n u L) {q : Nat} (hq : qQ p m L q) : q < w.heap.size := by
 rcases hq with rfl | rfl | hq
 · exact h.own.in_
 · exact h.map.in_
 · obtain ⟨f, hf, rfl⟩ := List.mem_map.1 hq;exact (h.fr f hf).in_
theorem Mem.keep (h : Mem w B p m n u L) {S : Nat -> Prop} (hc : Chg S w w') (hS : ∀ q, qQ p m L q -> ¬ S q) : Mem w' B p m n u L := by
 have k : ∀ q, qQ p m L q -> w'.heap[q]? = w.heap[q]? := fun q hq => hc.block q (h.in_ hq) (hS q hq)
 exact ⟨(k p (.inl rfl)).trans h.own, h.map.keep (k m (.inr (.inl rfl))), fun f hf => (k f.blk (.inr (.inr (List.mem_map.2 ⟨f, hf, rfl⟩)))).trans (h.fr f hf), h.apart, h.base⟩
theorem Mem.below (h : Mem w B p m n u L) (hb : Below w.heap.size w w') : Mem w' B p m n u L := h.keep (Chg.of (S := fun _ => False) hb) fun _ _ => id
theorem Mem.drew (h : Mem w B p m n u L) : Mem w.drew B p m n u L := h.keep ((Chg.refl (fun _ => False) w).drew) fun _ _ => id
theorem Mem.turn {S T : List Fr} {f g : Fr} (h : Mem w B p m n u (S ++ f :: T)) (hc : Chg (· = f.blk) w w') (ho : Own w' f.blk 269 (qA g)) (hb : g.blk = f.blk) (hn : g.rf.no = f.rf.no) : Mem w' B p m n u (S ++ g :: T) := by
 have hf : f ∈ S ++ f :: T := by simp
 have hbl : (S ++ g :: T).map (·.blk) = (S ++ f :: T).map (·.blk) := by simp [hb]
 have he : (S ++ g :: T).map ent = (S ++ f :: T).map ent := by simp [ent, hb, hn]
 have hnd := h.apart;rw [List.map_append, List.map_cons, List.nodup_append, List.nodup_cons] at hnd;refine ⟨hc.own h.own (h.ne_p hf).symm, ?_, fun x hx => ?_, by rw [hbl]; exact h.apart, fun q hq => h.base q (by unfold qQ at hq ⊢; rw [hbl] at hq; exact hq)⟩
 · rw [he];exact h.map.keep (hc.block m h.map.in_ (h.ne_fr hf))
 · have other : ∀ x ∈ S ++ f :: T, x.blk ≠ f.blk -> Own w' x.blk 269 (qA x) := fun x hx hne => hc.own (h.fr x hx) hne
   rcases List.mem_append.1 hx with hx | hx
   · exact other x (by simp [hx]) fun e => hnd.2.2 x.blk (List.mem_map.2 ⟨x, hx, rfl⟩) f.blk (by simp) e
   · rcases List.mem_cons.1 hx with rfl | hx
     · rw [hb]; exact ho
     · exact other x (by simp [hx]) fun e => hnd.2.1.1 (by rw [<- e]; exact List.mem_map.2 ⟨x, hx, rfl⟩)
theorem jM (w : World) (b o : Nat) (v : Value) : Chg (· = b) w (w.setCell ⟨b, o, none⟩ v) := (Chg.refl (· = b) w).set ⟨b, o, none⟩ (.inl rfl) v
theorem Mem.count (h : Mem w B p m n u L) (hc : Chg (· = p) w w') {v : Nat} (ho : Own w' p 255 (vP n m v)) : Mem w' B p m n v L :=
 ⟨ho, h.map.keep (hc.block m h.map.in_ h.ne_map), fun f hf => hc.own (h.fr f hf) (h.ne_p hf), h.apart, h.base⟩
theorem zEa (w : World) : (zeroValue 267).run Tryz.prog w = .ok (.pointer none) w := by kernel_rfl
end
section
variable {w : World} {B p m n u : Nat} {L S T : List Fr} {f : Fr}
theorem find_some (h : Mem w B p m n u (S ++ f :: T)) : Calls Tryz.prog 240 #[.pointer (some ⟨p, 0, none⟩), .int .i64 f.rf.no] w fun e w' => e = .returned (.pointer (some ⟨f.blk, 0, none⟩)) /\ w = w' := by
 have HM := h.map.look Tryz.underlying253 Tryz.underlying3 (zEa w) (i := f.rf.no) (v := .pointer (some ⟨f.blk, 0, none⟩)) (by rw [List.map_append, List.map_cons]; exact List.mem_append_right _ (List.mem_cons_self ..));obtain ⟨o1, o2, o3⟩ := h.own.at_;unfold vP at o1;clear h;go_enter Tryz.func240, Tryz.ntmps240;go_wp2;go_ret;exact ⟨rfl, rfl⟩
theorem find_none (h : Mem w B p m n u L) {no : Int} (hno : no ∉ (L.map (·.rf)).map (·.no)) : Calls Tryz.prog 240 #[.pointer (some ⟨p, 0, none⟩), .int .i64 no] w fun e w' => e = .returned (.pointer none) /\ w = w' := by
 have HM := h.map.miss Tryz.underlying253 Tryz.underlying3 (zEa w) (i := no) (fun v hv => hno (by
   obtain ⟨x, hx, e⟩ := List.mem_map.1 hv;have : x.rf.no = no := congrArg Prod.fst e;rw [<- this];exact List.mem_map.2 ⟨x.rf, List.mem_map.2 ⟨x, hx, rfl⟩, rfl⟩))
 obtain ⟨o1, o2, o3⟩ := h.own.at_;unfold vP at o1;clear h hno;go_enter Tryz.func240, Tryz.ntmps240;go_wp2;go_ret;exact ⟨rfl, rfl⟩
def used (f : Fr) (u : Nat) : Fr := ⟨f.rf, u, f.blk⟩
theorem zGq (h : Mem w B p m n u (S ++ f :: T)) (hu : u <= 1000000) : Calls Tryz.prog 241 #[.pointer (some ⟨p, 0, none⟩), .pointer (some ⟨f.blk, 0, none⟩)] w fun e w' =>
   e = .returned (.tuple #[]) /\ Mem w' B p m n (u + 1) (S ++ used f (u + 1) :: T) /\ Chg (fun q => q = p \/ q = f.blk) w w' := by
 have hf : f ∈ S ++ f :: T := by simp
 have hne := h.ne_p hf;have M1 : Mem (w.setCell ⟨p, 2, none⟩ (.int .i64 ((u : Int) + 1))) B p m n (u + 1) (S ++ f :: T) := h.count (jM _ _ _ _) (Own.put h.own 2 _);have F1 := M1.fr f hf;have M2 := M1.turn (g := used f (u + 1)) (jM _ f.blk 3 (.int .i64 ((u : Int) + 1))) (Own.put F1 3 _) rfl rfl;have C2 : Chg (fun q => q = p \/ q = f.blk) w ((w.setCell ⟨p, 2, none⟩ (.int .i64 ((u : Int) + 1))).setCell ⟨f.blk, 3, none⟩ (.int .i64 ((u : Int) + 1))) :=
   ((jM w p 2 _).mono fun q _ e => .inl e).same ((jM _ f.blk 3 _).mono fun q _ e => .inr e)
 replace M2 := Lh M2;replace C2 := Lh C2;obtain ⟨o1, o2, o3⟩ := h.own.at_;obtain ⟨p1, p2, p3⟩ := (h.fr f hf).at_;unfold vP at o1;unfold qA at p1;clear h M1 F1 hf;go_enter Tryz.func241, Tryz.ntmps241;go_wp2;go_end0
 exact ⟨rfl, M2.out, C2.out⟩
end
end Go.Proofs.YthijgebmoadgkaaGreatDoor.Po
end
