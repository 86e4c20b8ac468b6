
/- Bytes that are made: a row of noughts, one byte, as texts. It speaks of no function. -/
import Derived.Test.YteepggjbgdjchaaDoorSta
import Derived.Test.YteepggjbgdjchaaDoorMarM
import Derived.Deep.OwnRows
import Derived.KernelRfl
namespace Go.Proofs.YteepggjbgdjchaaDoor
open Go.ChangeShapes Go.WideShapes Go.ChangeAt Go.RowKit
set_option linter.unusedVariables false

theorem info_b8 : (Tryd.prog.info? 5).map (fun i => (i.zero, i.size, i.bytes)) = some (some (.int .u8 0), 1, 1) := by kernel_rfl
theorem zeros_at (w : World) (T : TypeId) (m : Nat) : BytesAt (w.alloc (.cells (madeCells #[.int .u8 0] m) T)) w.heap.size (List.replicate m 0) := by
  have h := (Own.made w T (madeCells #[.int .u8 0] m)).at_
  refine ⟨fun j hj => ?_, fun j hj => h.2.1 j⟩
  rw [h.1 j, ← Array.getElem?_toList, toList_madeCells_one]
  simp at hj
  simp [hj]
/-- make([]byte, m), for whatever integers say m -/
theorem make_bytes (m : Nat) (hm : m ≤ 1000000000) (w : World) : (Instr.makeSlice 66 (.int .i64 (m : Int)) (.int .i64 (m : Int))).run Tryd.prog w = .ok (.slice (some ⟨w.heap.size, 0, none⟩) m m) (w.alloc (.cells (madeCells #[.int .u8 0] m) 5)) :=
  run_make_row' (P := Tryd.prog) 66 5 (.int .u8 0) 1 Tryd.underlying66 info_b8 rfl .i64 .i64 m (by omega) (by omega) w
theorem zeros_text (m cap : Nat) (w : World) : (convert 66 9 (.slice (some ⟨w.heap.size, 0, none⟩) m cap)).run Tryd.prog (w.alloc (.cells (madeCells #[.int .u8 0] m) 5)) = .ok (.string (zB m)) (w.alloc (.cells (madeCells #[.int .u8 0] m) 5)) := by
  have HC := of_bytes Tryd.prog (w.alloc (.cells (madeCells #[.int .u8 0] m) 5)) 66 9 5 w.heap.size cap (List.replicate m 0) (zeros_at w _ m) Tryd.underlying66 Tryd.underlying5 Tryd.underlying9
  rw [List.length_replicate] at HC
  exact HC
theorem byte_text (W : World) (b k cap : Nat) (hk : k ≤ 255) (h : W.cell? ⟨b, 0, none⟩ = some (.int .u8 (k : Nat))) :
    (convert 66 9 (.slice (some ⟨b, 0, none⟩) 1 cap)).run Tryd.prog W = .ok (.string ⟨#[UInt8.ofNat k]⟩) W :=
  run_convert_bytes_back (P := Tryd.prog) W 66 9 5 ⟨b, 0, none⟩ cap [UInt8.ofNat k] Tryd.underlying66 Tryd.underlying5 Tryd.underlying9 (fun i hi => by
    have hij : i = 0 := by simpa using hi
    subst hij
    have ea : (⟨b, 0, none⟩ : Addr).add 0 = ⟨b, 0, none⟩ := rfl
    have e2 : (UInt8.ofNat k).toNat = k := by rw [UInt8.toNat_ofNat', Nat.mod_eq_of_lt (by omega)]
    rw [ea, h]
    show _ = some (Value.int .u8 ((UInt8.ofNat k).toNat : Int))
    rw [e2])
end Go.Proofs.YteepggjbgdjchaaDoor
