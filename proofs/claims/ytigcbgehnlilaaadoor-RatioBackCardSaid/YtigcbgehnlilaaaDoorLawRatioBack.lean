/- RatioBack: what was added can be taken away, what was multiplied by divided by, as long as all fits; what is answered is right: for every two fractions, right or not; the tables start as the program's text lays them. -/
import Derived.Test.YtigcbgehnlilaaaDoorRows
import Derived.Test.YtigcbgehnlilaaaDoorBytes
import Derived.Test.YtigcbgehnlilaaaDoorBacM
import Derived.Test.YtigcbgehnlilaaaDoorRts
import Derived.WalkKit
import Derived.ProofKit
import Derived.OpenShut
import Derived.ShutString
import Derived.ChangeOld
import Derived.Below
import Derived.SliceStrings
import Derived.Test.YtigcbgehnlilaaaDoorCards
import Derived.Test.YtigcbgehnlilaaaDoorTie
import Derived.LaidMore
import Derived.Stop.Joined
import Derived.SevenTiedAt
namespace Go.Proofs.YtigcbgehnlilaaaDoor.ratioBack
open Go.ChangeShapes Go.WideShapes Go.ChangeAt Go.RowKit
open Go.ChangeMaps (open_string shut_string)
set_option linter.unusedVariables false

set_option linter.unusedSimpArgs false

theorem own : ownKnob Tryd.prog.godebug = none := by kernel_rfl
theorem laidOut : laidOutB Tryd.prog = true := by kernel_rfl

set_option maxHeartbeats 16000000 in
set_option maxRecDepth 20000 in
theorem walk (an ad : Int) (bn bd : Int) (w : World) (han : Fit an) (had : Fit ad) (hbn : Fit bn) (hbd : Fit bd) (hp : Pow10 w) :
    Calls Tryd.prog 3 #[.agg #[.int .u64 (L0 an), .int .u64 (L1 an), .int .u64 (L2 an), .int .u64 (L3 an), .int .u64 (L0 ad), .int .u64 (L1 ad), .int .u64 (L2 ad), .int .u64 (L3 ad)], .agg #[.int .u64 (L0 bn), .int .u64 (L1 bn), .int .u64 (L2 bn), .int .u64 (L3 bn), .int .u64 (L0 bd), .int .u64 (L1 bd), .int .u64 (L2 bd), .int .u64 (L3 bd)]] w fun e w' => e = .returned (.bool true) ∧ Below w.heap.size w w' := by
  have AD : RowKit.Hid (∀ w : World, Calls Tryd.prog 7 #[.agg #[.int .u64 (L0 an), .int .u64 (L1 an), .int .u64 (L2 an), .int .u64 (L3 an), .int .u64 (L0 ad), .int .u64 (L1 ad), .int .u64 (L2 ad), .int .u64 (L3 ad)], .agg #[.int .u64 (L0 bn), .int .u64 (L1 bn), .int .u64 (L2 bn), .int .u64 (L3 bn), .int .u64 (L0 bd), .int .u64 (L1 bd), .int .u64 (L2 bd), .int .u64 (L3 bd)]] w fun e w' => e = .returned (.tuple #[.agg #[.int .u64 (L0 (rkP an ad bn bd (fb (an * bd) && fb (bn * ad) && fb (an * bd + bn * ad) && fb (ad * bd)) (an * bd + bn * ad) (ad * bd))), .int .u64 (L1 (rkP an ad bn bd (fb (an * bd) && fb (bn * ad) && fb (an * bd + bn * ad) && fb (ad * bd)) (an * bd + bn * ad) (ad * bd))), .int .u64 (L2 (rkP an ad bn bd (fb (an * bd) && fb (bn * ad) && fb (an * bd + bn * ad) && fb (ad * bd)) (an * bd + bn * ad) (ad * bd))), .int .u64 (L3 (rkP an ad bn bd (fb (an * bd) && fb (bn * ad) && fb (an * bd + bn * ad) && fb (ad * bd)) (an * bd + bn * ad) (ad * bd))), .int .u64 (L0 (rkQ an ad bn bd (fb (an * bd) && fb (bn * ad) && fb (an * bd + bn * ad) && fb (ad * bd)) (an * bd + bn * ad) (ad * bd))), .int .u64 (L1 (rkQ an ad bn bd (fb (an * bd) && fb (bn * ad) && fb (an * bd + bn * ad) && fb (ad * bd)) (an * bd + bn * ad) (ad * bd))), .int .u64 (L2 (rkQ an ad bn bd (fb (an * bd) && fb (bn * ad) && fb (an * bd + bn * ad) && fb (ad * bd)) (an * bd + bn * ad) (ad * bd))), .int .u64 (L3 (rkQ an ad bn bd (fb (an * bd) && fb (bn * ad) && fb (an * bd + bn * ad) && fb (ad * bd)) (an * bd + bn * ad) (ad * bd)))], .int .i64 (rkE an ad bn bd (fb (an * bd) && fb (bn * ad) && fb (an * bd + bn * ad) && fb (ad * bd)) (an * bd + bn * ad) (ad * bd))]) ∧ Below w.heap.size w w') := Lib.hid (fun w => RAdd_all han had hbn hbd w)
  have ML : RowKit.Hid (∀ w : World, Calls Tryd.prog 8 #[.agg #[.int .u64 (L0 an), .int .u64 (L1 an), .int .u64 (L2 an), .int .u64 (L3 an), .int .u64 (L0 ad), .int .u64 (L1 ad), .int .u64 (L2 ad), .int .u64 (L3 ad)], .agg #[.int .u64 (L0 bn), .int .u64 (L1 bn), .int .u64 (L2 bn), .int .u64 (L3 bn), .int .u64 (L0 bd), .int .u64 (L1 bd), .int .u64 (L2 bd), .int .u64 (L3 bd)]] w fun e w' => e = .returned (.tuple #[.agg #[.int .u64 (L0 (rkP an ad bn bd (fb (an * bn) && fb (ad * bd)) (an * bn) (ad * bd))), .int .u64 (L1 (rkP an ad bn bd (fb (an * bn) && fb (ad * bd)) (an * bn) (ad * bd))), .int .u64 (L2 (rkP an ad bn bd (fb (an * bn) && fb (ad * bd)) (an * bn) (ad * bd))), .int .u64 (L3 (rkP an ad bn bd (fb (an * bn) && fb (ad * bd)) (an * bn) (ad * bd))), .int .u64 (L0 (rkQ an ad bn bd (fb (an * bn) && fb (ad * bd)) (an * bn) (ad * bd))), .int .u64 (L1 (rkQ an ad bn bd (fb (an * bn) && fb (ad * bd)) (an * bn) (ad * bd))), .int .u64 (L2 (rkQ an ad bn bd (fb (an * bn) && fb (ad * bd)) (an * bn) (ad * bd))), .int .u64 (L3 (rkQ an ad bn bd (fb (an * bn) && fb (ad * bd)) (an * bn) (ad * bd)))], .int .i64 (rkE an ad bn bd (fb (an * bn) && fb (ad * bd)) (an * bn) (ad * bd))]) ∧ Below w.heap.size w w') := Lib.hid (fun w => RMul_all han had hbn hbd w)
  obtain ⟨sp, esp⟩ : ∃ z, z = rkP an ad bn bd (fb (an * bd) && fb (bn * ad) && fb (an * bd + bn * ad) && fb (ad * bd)) (an * bd + bn * ad) (ad * bd) := ⟨_, rfl⟩
  obtain ⟨sq, esq⟩ : ∃ z, z = rkQ an ad bn bd (fb (an * bd) && fb (bn * ad) && fb (an * bd + bn * ad) && fb (ad * bd)) (an * bd + bn * ad) (ad * bd) := ⟨_, rfl⟩
  obtain ⟨er, eer⟩ : ∃ z, z = rkE an ad bn bd (fb (an * bd) && fb (bn * ad) && fb (an * bd + bn * ad) && fb (ad * bd)) (an * bd + bn * ad) (ad * bd) := ⟨_, rfl⟩
  obtain ⟨up, eup⟩ : ∃ z, z = rkP an ad bn bd (fb (an * bn) && fb (ad * bd)) (an * bn) (ad * bd) := ⟨_, rfl⟩
  obtain ⟨uq, euq⟩ : ∃ z, z = rkQ an ad bn bd (fb (an * bn) && fb (ad * bd)) (an * bn) (ad * bd) := ⟨_, rfl⟩
  obtain ⟨fr, efr⟩ : ∃ z, z = rkE an ad bn bd (fb (an * bn) && fb (ad * bd)) (an * bn) (ad * bd) := ⟨_, rfl⟩
  have hsp : Fit sp := esp ▸ rkP_fit _ _ _ _ _ _ _
  have hsq : Fit sq := esq ▸ rkQ_fit _ _ _ _ _ _ _
  have hup : Fit up := eup ▸ rkP_fit _ _ _ _ _ _ _
  have huq : Fit uq := euq ▸ rkQ_fit _ _ _ _ _ _ _
  rw [← esp, ← esq, ← eer] at AD
  rw [← eup, ← euq, ← efr] at ML
  have RS : RowKit.Hid ((er == 0) = true → ∀ w : World, Calls Tryd.prog 10 #[.agg #[.int .u64 (L0 sp), .int .u64 (L1 sp), .int .u64 (L2 sp), .int .u64 (L3 sp), .int .u64 (L0 sq), .int .u64 (L1 sq), .int .u64 (L2 sq), .int .u64 (L3 sq)]] w fun e w' => e = .returned (.bool true) ∧ Below w.heap.size w w') := Lib.hid (fun h w => Right_is hsp hsq (by rw [eer] at h; rw [esp, esq]; exact rk_right h) w)
  have RP : RowKit.Hid ((fr == 0) = true → ∀ w : World, Calls Tryd.prog 10 #[.agg #[.int .u64 (L0 up), .int .u64 (L1 up), .int .u64 (L2 up), .int .u64 (L3 up), .int .u64 (L0 uq), .int .u64 (L1 uq), .int .u64 (L2 uq), .int .u64 (L3 uq)]] w fun e w' => e = .returned (.bool true) ∧ Below w.heap.size w w') := Lib.hid (fun h w => Right_is hup huq (by rw [efr] at h; rw [eup, euq]; exact rk_right h) w)
  have SU : RowKit.Hid (∀ w : World, Calls Tryd.prog 11 #[.agg #[.int .u64 (L0 sp), .int .u64 (L1 sp), .int .u64 (L2 sp), .int .u64 (L3 sp), .int .u64 (L0 sq), .int .u64 (L1 sq), .int .u64 (L2 sq), .int .u64 (L3 sq)], .agg #[.int .u64 (L0 bn), .int .u64 (L1 bn), .int .u64 (L2 bn), .int .u64 (L3 bn), .int .u64 (L0 bd), .int .u64 (L1 bd), .int .u64 (L2 bd), .int .u64 (L3 bd)]] w fun e w' => e = .returned (.tuple #[.agg #[.int .u64 (L0 (rkP sp sq bn bd (fb (sp * bd) && fb (bn * sq) && fb (sp * bd - bn * sq) && fb (sq * bd)) (sp * bd - bn * sq) (sq * bd))), .int .u64 (L1 (rkP sp sq bn bd (fb (sp * bd) && fb (bn * sq) && fb (sp * bd - bn * sq) && fb (sq * bd)) (sp * bd - bn * sq) (sq * bd))), .int .u64 (L2 (rkP sp sq bn bd (fb (sp * bd) && fb (bn * sq) && fb (sp * bd - bn * sq) && fb (sq * bd)) (sp * bd - bn * sq) (sq * bd))), .int .u64 (L3 (rkP sp sq bn bd (fb (sp * bd) && fb (bn * sq) && fb (sp * bd - bn * sq) && fb (sq * bd)) (sp * bd - bn * sq) (sq * bd))), .int .u64 (L0 (rkQ sp sq bn bd (fb (sp * bd) && fb (bn * sq) && fb (sp * bd - bn * sq) && fb (sq * bd)) (sp * bd - bn * sq) (sq * bd))), .int .u64 (L1 (rkQ sp sq bn bd (fb (sp * bd) && fb (bn * sq) && fb (sp * bd - bn * sq) && fb (sq * bd)) (sp * bd - bn * sq) (sq * bd))), .int .u64 (L2 (rkQ sp sq bn bd (fb (sp * bd) && fb (bn * sq) && fb (sp * bd - bn * sq) && fb (sq * bd)) (sp * bd - bn * sq) (sq * bd))), .int .u64 (L3 (rkQ sp sq bn bd (fb (sp * bd) && fb (bn * sq) && fb (sp * bd - bn * sq) && fb (sq * bd)) (sp * bd - bn * sq) (sq * bd)))], .int .i64 (rkE sp sq bn bd (fb (sp * bd) && fb (bn * sq) && fb (sp * bd - bn * sq) && fb (sq * bd)) (sp * bd - bn * sq) (sq * bd))]) ∧ Below w.heap.size w w') := Lib.hid (fun w => RSub_all hsp hsq hbn hbd w)
  have DV : RowKit.Hid (∀ w : World, Calls Tryd.prog 12 #[.agg #[.int .u64 (L0 up), .int .u64 (L1 up), .int .u64 (L2 up), .int .u64 (L3 up), .int .u64 (L0 uq), .int .u64 (L1 uq), .int .u64 (L2 uq), .int .u64 (L3 uq)], .agg #[.int .u64 (L0 bn), .int .u64 (L1 bn), .int .u64 (L2 bn), .int .u64 (L3 bn), .int .u64 (L0 bd), .int .u64 (L1 bd), .int .u64 (L2 bd), .int .u64 (L3 bd)]] w fun e w' => e = .returned (.tuple #[.agg #[.int .u64 (L0 (rkP up uq bn bd (fb (up * bd) && fb (uq * bn)) (up * bd) (uq * bn))), .int .u64 (L1 (rkP up uq bn bd (fb (up * bd) && fb (uq * bn)) (up * bd) (uq * bn))), .int .u64 (L2 (rkP up uq bn bd (fb (up * bd) && fb (uq * bn)) (up * bd) (uq * bn))), .int .u64 (L3 (rkP up uq bn bd (fb (up * bd) && fb (uq * bn)) (up * bd) (uq * bn))), .int .u64 (L0 (rkQ up uq bn bd (fb (up * bd) && fb (uq * bn)) (up * bd) (uq * bn))), .int .u64 (L1 (rkQ up uq bn bd (fb (up * bd) && fb (uq * bn)) (up * bd) (uq * bn))), .int .u64 (L2 (rkQ up uq bn bd (fb (up * bd) && fb (uq * bn)) (up * bd) (uq * bn))), .int .u64 (L3 (rkQ up uq bn bd (fb (up * bd) && fb (uq * bn)) (up * bd) (uq * bn)))], .int .i64 (rkE up uq bn bd (fb (up * bd) && fb (uq * bn)) (up * bd) (uq * bn))]) ∧ Below w.heap.size w w') := Lib.hid (fun w => RDiv_all hup huq hbn hbd w)
  have HXA : RowKit.Hid ((er == 0) = true → (rkE sp sq bn bd (fb (sp * bd) && fb (bn * sq) && fb (sp * bd - bn * sq) && fb (sq * bd)) (sp * bd - bn * sq) (sq * bd) == 0) = true → decide (rkP sp sq bn bd (fb (sp * bd) && fb (bn * sq) && fb (sp * bd - bn * sq) && fb (sq * bd)) (sp * bd - bn * sq) (sq * bd) = an ∧ rkQ sp sq bn bd (fb (sp * bd) && fb (bn * sq) && fb (sp * bd - bn * sq) && fb (sq * bd)) (sp * bd - bn * sq) (sq * bd) = ad) = true) := Lib.hid (fun h k => by rw [eer] at h; exact back_sub h esp esq k)
  have HXN : RowKit.Hid ((er == 0) = true → (rkE sp sq bn bd (fb (sp * bd) && fb (bn * sq) && fb (sp * bd - bn * sq) && fb (sq * bd)) (sp * bd - bn * sq) (sq * bd) == 0) = false → (rkE sp sq bn bd (fb (sp * bd) && fb (bn * sq) && fb (sp * bd - bn * sq) && fb (sq * bd)) (sp * bd - bn * sq) (sq * bd) == 3) = true) := Lib.hid (fun h k => by rw [eer] at h; exact back_sub_no h esp esq k)
  have HYA : RowKit.Hid ((fr == 0) = true → (rkE up uq bn bd (fb (up * bd) && fb (uq * bn)) (up * bd) (uq * bn) == 0) = true → decide (rkP up uq bn bd (fb (up * bd) && fb (uq * bn)) (up * bd) (uq * bn) = an ∧ rkQ up uq bn bd (fb (up * bd) && fb (uq * bn)) (up * bd) (uq * bn) = ad) = true) := Lib.hid (fun h k => by rw [efr] at h; exact back_div h eup euq k)
  have HYN : RowKit.Hid ((fr == 0) = true → (rkE up uq bn bd (fb (up * bd) && fb (uq * bn)) (up * bd) (uq * bn) == 0) = false → (rkE up uq bn bd (fb (up * bd) && fb (uq * bn)) (up * bd) (uq * bn) == 3) = false → (rkE up uq bn bd (fb (up * bd) && fb (uq * bn)) (up * bd) (uq * bn) == 4) = true) := Lib.hid (fun h k l => by rw [efr] at h; exact back_div_no h eup euq k l)
  have hxp := rkP_fit sp sq bn bd (fb (sp * bd) && fb (bn * sq) && fb (sp * bd - bn * sq) && fb (sq * bd)) (sp * bd - bn * sq) (sq * bd)
  have hxq := rkQ_fit sp sq bn bd (fb (sp * bd) && fb (bn * sq) && fb (sp * bd - bn * sq) && fb (sq * bd)) (sp * bd - bn * sq) (sq * bd)
  have hyp := rkP_fit up uq bn bd (fb (up * bd) && fb (uq * bn)) (up * bd) (uq * bn)
  have hyq := rkQ_fit up uq bn bd (fb (up * bd) && fb (uq * bn)) (up * bd) (uq * bn)
  clear esp esq eer eup euq efr
  generalize rkP sp sq bn bd (fb (sp * bd) && fb (bn * sq) && fb (sp * bd - bn * sq) && fb (sq * bd)) (sp * bd - bn * sq) (sq * bd) = xp at *
  generalize rkQ sp sq bn bd (fb (sp * bd) && fb (bn * sq) && fb (sp * bd - bn * sq) && fb (sq * bd)) (sp * bd - bn * sq) (sq * bd) = xq at *
  generalize rkE sp sq bn bd (fb (sp * bd) && fb (bn * sq) && fb (sp * bd - bn * sq) && fb (sq * bd)) (sp * bd - bn * sq) (sq * bd) = gr at *
  generalize rkP up uq bn bd (fb (up * bd) && fb (uq * bn)) (up * bd) (uq * bn) = yp at *
  generalize rkQ up uq bn bd (fb (up * bd) && fb (uq * bn)) (up * bd) (uq * bn) = yq at *
  generalize rkE up uq bn bd (fb (up * bd) && fb (uq * bn)) (up * bd) (uq * bn) = hr at *
  go_enter Tryd.func3, Tryd.ntmps3
  go_upto_region 1 with fail
  go_name_world W0 hW0e
  have ow2 : Own W0 w.heap.size 26 #[.int .u64 (L0 an), .int .u64 (L1 an), .int .u64 (L2 an), .int .u64 (L3 an), .int .u64 (L0 ad), .int .u64 (L1 ad), .int .u64 (L2 ad), .int .u64 (L3 ad)] := hW0e ▸ (by repeat' (first | (with_reducible assumption) | (with_reducible refine Own.drawnN ?_ _) | (with_reducible refine Own.drawn ?_) | (with_reducible refine Own.made_at ?_; first | rfl | (simp; done) | omega | (simp; omega)) | (with_reducible refine Own.more ?_ _) | (with_reducible refine Own.apart ?_ ?_ _ _; rotate_left; first | omega | (simp; done) | (simp; omega)) | (refine Own.put ?_ _ _)))
  have ow3 : Own W0 (w.heap.size + 1) 26 #[.int .u64 (L0 bn), .int .u64 (L1 bn), .int .u64 (L2 bn), .int .u64 (L3 bn), .int .u64 (L0 bd), .int .u64 (L1 bd), .int .u64 (L2 bd), .int .u64 (L3 bd)] := hW0e ▸ (by repeat' (first | (with_reducible assumption) | (with_reducible refine Own.drawnN ?_ _) | (with_reducible refine Own.drawn ?_) | (with_reducible refine Own.made_at ?_; first | rfl | (simp; done) | omega | (simp; omega)) | (with_reducible refine Own.more ?_ _) | (with_reducible refine Own.apart ?_ ?_ _ _; rotate_left; first | omega | (simp; done) | (simp; omega)) | (refine Own.put ?_ _ _)))
  have hW0 : Below w.heap.size w W0 := hW0e ▸ (by repeat' (first | (with_reducible exact Below.refl _ _) | (with_reducible assumption) | (with_reducible refine below_drewN ?_ _) | (with_reducible refine Below.drew ?_) | (with_reducible refine Below.alloc ?_ ?_ _) | (with_reducible refine Below.setCell ?_ ?_ _) | (with_reducible refine then_ ?_ (by with_reducible assumption) ?_) | (with_reducible exact Nat.le_refl _) | (with_reducible exact Nat.le_succ _) | (with_reducible exact Nat.le_succ_of_le (by with_reducible assumption)) | omega | (simp; done) | (simp; omega) | (exact Nat.le_succ _) | (exact Nat.le_succ_of_le (by with_reducible assumption))))
  clear hW0e
  have zown := ow3.in_
  go_upto_region 1 with fail
  refine region_memo_f (B := W0.heap.size) (L := .val (.agg #[.int .u64 (L0 an), .int .u64 (L1 an), .int .u64 (L2 an), .int .u64 (L3 an), .int .u64 (L0 ad), .int .u64 (L1 ad), .int .u64 (L2 ad), .int .u64 (L3 ad)]) :: .val (.agg #[.int .u64 (L0 bn), .int .u64 (L1 bn), .int .u64 (L2 bn), .int .u64 (L3 bn), .int .u64 (L0 bd), .int .u64 (L1 bd), .int .u64 (L2 bd), .int .u64 (L3 bd)]) :: .val (.tuple #[.agg #[.int .u64 (L0 sp), .int .u64 (L1 sp), .int .u64 (L2 sp), .int .u64 (L3 sp), .int .u64 (L0 sq), .int .u64 (L1 sq), .int .u64 (L2 sq), .int .u64 (L3 sq)], .int .i64 er]) :: .val (.tuple #[.agg #[.int .u64 (L0 sp), .int .u64 (L1 sp), .int .u64 (L2 sp), .int .u64 (L3 sp), .int .u64 (L0 sq), .int .u64 (L1 sq), .int .u64 (L2 sq), .int .u64 (L3 sq)], .int .i64 er]) :: .val (.agg #[.int .u64 (L0 sp), .int .u64 (L1 sp), .int .u64 (L2 sp), .int .u64 (L3 sp), .int .u64 (L0 sq), .int .u64 (L1 sq), .int .u64 (L2 sq), .int .u64 (L3 sq)]) :: .val (.int .i64 er) :: .blk 26 8 :: .put 5 26 #[.int .u64 (L0 sp), .int .u64 (L1 sp), .int .u64 (L2 sp), .int .u64 (L3 sp), .int .u64 (L0 sq), .int .u64 (L1 sq), .int .u64 (L2 sq), .int .u64 (L3 sq)] :: .val (.int .i64 er) :: []) (by kernel_rfl) (Nat.le_refl _) ((by exact trivial))
    ⟨fun a w R => ld_R (R.slot 2 rfl) (R.keep ow2 trivial) rfl rfl rfl rfl rfl rfl rfl rfl, fun a w R => ld_R (R.slot 3 rfl) (R.keep ow3 trivial) rfl rfl rfl rfl rfl rfl rfl rfl, fun a w R => cl_tt (enter_at Tryd.func7) (R.val 0) (R.val 1) (AD.out _), fun a w R => mv (R.val 2), fun a w R => ex0 (R.val 3), fun a w R => ex1 (R.val 3), fun a w R => al_R, fun a w R => sb_R (R.dep 6) (R.val 4), fun a w R => asg (R.val 5), trivial⟩ (fun act_ W1 I => ?_)
  obtain ⟨gb5, ew5, lw5, ow5⟩ := I.put 7 rfl rfl
  rw [I.act [(14, .agg #[.int .u64 (L0 an), .int .u64 (L1 an), .int .u64 (L2 an), .int .u64 (L3 an), .int .u64 (L0 ad), .int .u64 (L1 ad), .int .u64 (L2 ad), .int .u64 (L3 ad)]), (15, .agg #[.int .u64 (L0 bn), .int .u64 (L1 bn), .int .u64 (L2 bn), .int .u64 (L3 bn), .int .u64 (L0 bd), .int .u64 (L1 bd), .int .u64 (L2 bd), .int .u64 (L3 bd)]), (16, .tuple #[.agg #[.int .u64 (L0 sp), .int .u64 (L1 sp), .int .u64 (L2 sp), .int .u64 (L3 sp), .int .u64 (L0 sq), .int .u64 (L1 sq), .int .u64 (L2 sq), .int .u64 (L3 sq)], .int .i64 er]), (13, .tuple #[.agg #[.int .u64 (L0 sp), .int .u64 (L1 sp), .int .u64 (L2 sp), .int .u64 (L3 sp), .int .u64 (L0 sq), .int .u64 (L1 sq), .int .u64 (L2 sq), .int .u64 (L3 sq)], .int .i64 er]), (17, .agg #[.int .u64 (L0 sp), .int .u64 (L1 sp), .int .u64 (L2 sp), .int .u64 (L3 sp), .int .u64 (L0 sq), .int .u64 (L1 sq), .int .u64 (L2 sq), .int .u64 (L3 sq)]), (18, .int .i64 er), (5, .pointer (some ⟨gb5, 0, none⟩)), (6, .int .i64 er)]
    ⟨I.val 0, I.val 1, I.val 2, I.val 3, I.val 4, I.val 5, ew5, I.val 8, trivial⟩ rfl]
  change W0.heap.size ≤ gb5 at lw5
  have sW1 : W0.heap.size ≤ W1.heap.size := I.below.size
  replace ow2 := I.keep ow2 trivial
  replace ow3 := I.keep ow3 trivial
  have hW1 : Below w.heap.size w W1 := then_ hW0 I.below hW0.size
  clear ew5
  clear I
  simp only [List.foldl_cons, List.foldl_nil, List.setIfInBounds_toArray, List.set_cons_zero, List.set_cons_succ]
  go_upto_region 2 with fail
  refine region_memo_f (B := W1.heap.size) (L := .val (.agg #[.int .u64 (L0 an), .int .u64 (L1 an), .int .u64 (L2 an), .int .u64 (L3 an), .int .u64 (L0 ad), .int .u64 (L1 ad), .int .u64 (L2 ad), .int .u64 (L3 ad)]) :: .val (.agg #[.int .u64 (L0 bn), .int .u64 (L1 bn), .int .u64 (L2 bn), .int .u64 (L3 bn), .int .u64 (L0 bd), .int .u64 (L1 bd), .int .u64 (L2 bd), .int .u64 (L3 bd)]) :: .val (.tuple #[.agg #[.int .u64 (L0 up), .int .u64 (L1 up), .int .u64 (L2 up), .int .u64 (L3 up), .int .u64 (L0 uq), .int .u64 (L1 uq), .int .u64 (L2 uq), .int .u64 (L3 uq)], .int .i64 fr]) :: .val (.tuple #[.agg #[.int .u64 (L0 up), .int .u64 (L1 up), .int .u64 (L2 up), .int .u64 (L3 up), .int .u64 (L0 uq), .int .u64 (L1 uq), .int .u64 (L2 uq), .int .u64 (L3 uq)], .int .i64 fr]) :: .val (.agg #[.int .u64 (L0 up), .int .u64 (L1 up), .int .u64 (L2 up), .int .u64 (L3 up), .int .u64 (L0 uq), .int .u64 (L1 uq), .int .u64 (L2 uq), .int .u64 (L3 uq)]) :: .val (.int .i64 fr) :: .blk 26 8 :: .put 7 26 #[.int .u64 (L0 up), .int .u64 (L1 up), .int .u64 (L2 up), .int .u64 (L3 up), .int .u64 (L0 uq), .int .u64 (L1 uq), .int .u64 (L2 uq), .int .u64 (L3 uq)] :: .val (.int .i64 fr) :: []) (by kernel_rfl) (Nat.le_refl _) ((by exact trivial))
    ⟨fun a w R => ld_R (R.slot 2 rfl) (R.keep ow2 trivial) rfl rfl rfl rfl rfl rfl rfl rfl, fun a w R => ld_R (R.slot 3 rfl) (R.keep ow3 trivial) rfl rfl rfl rfl rfl rfl rfl rfl, fun a w R => cl_tt (enter_at Tryd.func8) (R.val 0) (R.val 1) (ML.out _), fun a w R => mv (R.val 2), fun a w R => ex0 (R.val 3), fun a w R => ex1 (R.val 3), fun a w R => al_R, fun a w R => sb_R (R.dep 6) (R.val 4), fun a w R => asg (R.val 5), trivial⟩ (fun act_ W2 I => ?_)
  obtain ⟨gb7, ew7, lw7, ow7⟩ := I.put 7 rfl rfl
  rw [I.act [(20, .agg #[.int .u64 (L0 an), .int .u64 (L1 an), .int .u64 (L2 an), .int .u64 (L3 an), .int .u64 (L0 ad), .int .u64 (L1 ad), .int .u64 (L2 ad), .int .u64 (L3 ad)]), (21, .agg #[.int .u64 (L0 bn), .int .u64 (L1 bn), .int .u64 (L2 bn), .int .u64 (L3 bn), .int .u64 (L0 bd), .int .u64 (L1 bd), .int .u64 (L2 bd), .int .u64 (L3 bd)]), (22, .tuple #[.agg #[.int .u64 (L0 up), .int .u64 (L1 up), .int .u64 (L2 up), .int .u64 (L3 up), .int .u64 (L0 uq), .int .u64 (L1 uq), .int .u64 (L2 uq), .int .u64 (L3 uq)], .int .i64 fr]), (19, .tuple #[.agg #[.int .u64 (L0 up), .int .u64 (L1 up), .int .u64 (L2 up), .int .u64 (L3 up), .int .u64 (L0 uq), .int .u64 (L1 uq), .int .u64 (L2 uq), .int .u64 (L3 uq)], .int .i64 fr]), (23, .agg #[.int .u64 (L0 up), .int .u64 (L1 up), .int .u64 (L2 up), .int .u64 (L3 up), .int .u64 (L0 uq), .int .u64 (L1 uq), .int .u64 (L2 uq), .int .u64 (L3 uq)]), (24, .int .i64 fr), (7, .pointer (some ⟨gb7, 0, none⟩)), (8, .int .i64 fr)]
    ⟨I.val 0, I.val 1, I.val 2, I.val 3, I.val 4, I.val 5, ew7, I.val 8, trivial⟩ rfl]
  change W1.heap.size ≤ gb7 at lw7
  have sW2 : W1.heap.size ≤ W2.heap.size := I.below.size
  replace ow2 := I.keep ow2 trivial
  replace ow3 := I.keep ow3 trivial
  replace ow5 := I.keep ow5 trivial
  have hW2 : Below w.heap.size w W2 := then_ hW1 I.below hW1.size
  clear ew7
  clear I
  simp only [List.foldl_cons, List.foldl_nil, List.setIfInBounds_toArray, List.set_cons_zero, List.set_cons_succ]
  rcases Bool.eq_false_or_eq_true ((er == 0)) with t1 | t1
  · have t1_ := Lib.hid t1
    clear t1
    rcases Bool.eq_false_or_eq_true ((fr == 0)) with t2 | t2
    · have t2_ := Lib.hid t2
      clear t2
      go_upto_region 3 with fail
      refine region_memo_f (B := W2.heap.size) (L := .val (.bool true) :: .val (.bool false) :: .val (.bool false) :: .val (.int .i64 er) :: .val (.bool true) :: .val (.bool true) :: .val (.agg #[.int .u64 (L0 sp), .int .u64 (L1 sp), .int .u64 (L2 sp), .int .u64 (L3 sp), .int .u64 (L0 sq), .int .u64 (L1 sq), .int .u64 (L2 sq), .int .u64 (L3 sq)]) :: .val (.bool true) :: .val (.bool false) :: .val (.bool false) :: .val (.bool false) :: .val (.bool false) :: .val (.int .i64 fr) :: .val (.bool true) :: .val (.bool true) :: .val (.agg #[.int .u64 (L0 up), .int .u64 (L1 up), .int .u64 (L2 up), .int .u64 (L3 up), .int .u64 (L0 uq), .int .u64 (L1 uq), .int .u64 (L2 uq), .int .u64 (L3 uq)]) :: .val (.bool true) :: .val (.bool false) :: .val (.bool false) :: .val (.bool false) :: []) (by kernel_rfl) (Nat.le_refl _) ((by exact trivial))
        ⟨fun a w R => cl_0 (enter_at Tryd.func9)  (awake4 _ ((hp.keep hW2).keep R.below)), fun a w R => notb (R.val 0), fun a w R => mv (R.val 1), fun a w R => mv (R.slot 6 rfl), fun a w R => c_eql_tk (R.val 3) (Tryd.underlying27) t1_.out, fun a w R => mv (R.val 4), fun a w R => ld_R (R.slot 5 rfl) (R.keep ow5 trivial) rfl rfl rfl rfl rfl rfl rfl rfl, fun a w R => cl_t (enter_at Tryd.func10) (R.val 6) (RS.out t1_.out _), fun a w R => notb (R.val 7), fun a w R => pickt (R.val 5) (R.val 8), fun a w R => pickn (R.val 2) (R.val 9), fun a w R => mv (R.val 10), fun a w R => mv (R.slot 8 rfl), fun a w R => c_eql_tk (R.val 12) (Tryd.underlying27) t2_.out, fun a w R => mv (R.val 13), fun a w R => ld_R (R.slot 7 rfl) (R.keep ow7 trivial) rfl rfl rfl rfl rfl rfl rfl rfl, fun a w R => cl_t (enter_at Tryd.func10) (R.val 15) (RP.out t2_.out _), fun a w R => notb (R.val 16), fun a w R => pickt (R.val 14) (R.val 17), fun a w R => pickn (R.val 11) (R.val 18), trivial⟩ (fun act_ W3 I => ?_)
      rw [I.act [(25, .bool true), (26, .bool false), (27, .bool false), (28, .int .i64 er), (29, .bool true), (30, .bool true), (31, .agg #[.int .u64 (L0 sp), .int .u64 (L1 sp), .int .u64 (L2 sp), .int .u64 (L3 sp), .int .u64 (L0 sq), .int .u64 (L1 sq), .int .u64 (L2 sq), .int .u64 (L3 sq)]), (32, .bool true), (33, .bool false), (34, .bool false), (35, .bool false), (36, .bool false), (37, .int .i64 fr), (38, .bool true), (39, .bool true), (40, .agg #[.int .u64 (L0 up), .int .u64 (L1 up), .int .u64 (L2 up), .int .u64 (L3 up), .int .u64 (L0 uq), .int .u64 (L1 uq), .int .u64 (L2 uq), .int .u64 (L3 uq)]), (41, .bool true), (42, .bool false), (43, .bool false), (44, .bool false)]
        ⟨I.val 0, I.val 1, I.val 2, I.val 3, I.val 4, I.val 5, I.val 6, I.val 7, I.val 8, I.val 9, I.val 10, I.val 11, I.val 12, I.val 13, I.val 14, I.val 15, I.val 16, I.val 17, I.val 18, I.val 19, trivial⟩ rfl]
      have sW3 : W2.heap.size ≤ W3.heap.size := I.below.size
      replace ow2 := I.keep ow2 trivial
      replace ow3 := I.keep ow3 trivial
      replace ow5 := I.keep ow5 trivial
      replace ow7 := I.keep ow7 trivial
      have hW3 : Below w.heap.size w W3 := then_ hW2 I.below hW2.size
      clear I
      simp only [List.foldl_cons, List.foldl_nil, List.setIfInBounds_toArray, List.set_cons_zero, List.set_cons_succ]
      go_upto_region 5 with fail
      refine region_memo_f (B := W3.heap.size) (L := .val (.int .i64 er) :: .val (.bool true) :: []) (by kernel_rfl) (Nat.le_refl _) ((by exact trivial))
        ⟨fun a w R => mv (R.slot 6 rfl), fun a w R => c_eql_tk (R.val 0) (Tryd.underlying27) t1_.out, trivial⟩ (fun act_ W4 I => ?_)
      rw [I.act [(45, .int .i64 er), (46, .bool true)]
        ⟨I.val 0, I.val 1, trivial⟩ rfl]
      have sW4 : W3.heap.size ≤ W4.heap.size := I.below.size
      replace ow2 := I.keep ow2 trivial
      replace ow3 := I.keep ow3 trivial
      replace ow5 := I.keep ow5 trivial
      replace ow7 := I.keep ow7 trivial
      have hW4 : Below w.heap.size w W4 := then_ hW3 I.below hW3.size
      clear I
      simp only [List.foldl_cons, List.foldl_nil, List.setIfInBounds_toArray, List.set_cons_zero, List.set_cons_succ]
      go_upto_region 6 with fail
      refine region_memo_f (B := W4.heap.size) (L := .val (.agg #[.int .u64 (L0 sp), .int .u64 (L1 sp), .int .u64 (L2 sp), .int .u64 (L3 sp), .int .u64 (L0 sq), .int .u64 (L1 sq), .int .u64 (L2 sq), .int .u64 (L3 sq)]) :: .val (.agg #[.int .u64 (L0 bn), .int .u64 (L1 bn), .int .u64 (L2 bn), .int .u64 (L3 bn), .int .u64 (L0 bd), .int .u64 (L1 bd), .int .u64 (L2 bd), .int .u64 (L3 bd)]) :: .val (.tuple #[.agg #[.int .u64 (L0 xp), .int .u64 (L1 xp), .int .u64 (L2 xp), .int .u64 (L3 xp), .int .u64 (L0 xq), .int .u64 (L1 xq), .int .u64 (L2 xq), .int .u64 (L3 xq)], .int .i64 gr]) :: .val (.tuple #[.agg #[.int .u64 (L0 xp), .int .u64 (L1 xp), .int .u64 (L2 xp), .int .u64 (L3 xp), .int .u64 (L0 xq), .int .u64 (L1 xq), .int .u64 (L2 xq), .int .u64 (L3 xq)], .int .i64 gr]) :: .val (.agg #[.int .u64 (L0 xp), .int .u64 (L1 xp), .int .u64 (L2 xp), .int .u64 (L3 xp), .int .u64 (L0 xq), .int .u64 (L1 xq), .int .u64 (L2 xq), .int .u64 (L3 xq)]) :: .val (.int .i64 gr) :: .blk 26 8 :: .put 9 26 #[.int .u64 (L0 xp), .int .u64 (L1 xp), .int .u64 (L2 xp), .int .u64 (L3 xp), .int .u64 (L0 xq), .int .u64 (L1 xq), .int .u64 (L2 xq), .int .u64 (L3 xq)] :: .val (.int .i64 gr) :: []) (by kernel_rfl) (Nat.le_refl _) ((by exact trivial))
        ⟨fun a w R => ld_R (R.slot 5 rfl) (R.keep ow5 trivial) rfl rfl rfl rfl rfl rfl rfl rfl, fun a w R => ld_R (R.slot 3 rfl) (R.keep ow3 trivial) rfl rfl rfl rfl rfl rfl rfl rfl, fun a w R => cl_tt (enter_at Tryd.func11) (R.val 0) (R.val 1) (SU.out _), fun a w R => mv (R.val 2), fun a w R => ex0 (R.val 3), fun a w R => ex1 (R.val 3), fun a w R => al_R, fun a w R => sb_R (R.dep 6) (R.val 4), fun a w R => asg (R.val 5), trivial⟩ (fun act_ W5 I => ?_)
      obtain ⟨gb9, ew9, lw9, ow9⟩ := I.put 7 rfl rfl
      rw [I.act [(48, .agg #[.int .u64 (L0 sp), .int .u64 (L1 sp), .int .u64 (L2 sp), .int .u64 (L3 sp), .int .u64 (L0 sq), .int .u64 (L1 sq), .int .u64 (L2 sq), .int .u64 (L3 sq)]), (49, .agg #[.int .u64 (L0 bn), .int .u64 (L1 bn), .int .u64 (L2 bn), .int .u64 (L3 bn), .int .u64 (L0 bd), .int .u64 (L1 bd), .int .u64 (L2 bd), .int .u64 (L3 bd)]), (50, .tuple #[.agg #[.int .u64 (L0 xp), .int .u64 (L1 xp), .int .u64 (L2 xp), .int .u64 (L3 xp), .int .u64 (L0 xq), .int .u64 (L1 xq), .int .u64 (L2 xq), .int .u64 (L3 xq)], .int .i64 gr]), (47, .tuple #[.agg #[.int .u64 (L0 xp), .int .u64 (L1 xp), .int .u64 (L2 xp), .int .u64 (L3 xp), .int .u64 (L0 xq), .int .u64 (L1 xq), .int .u64 (L2 xq), .int .u64 (L3 xq)], .int .i64 gr]), (51, .agg #[.int .u64 (L0 xp), .int .u64 (L1 xp), .int .u64 (L2 xp), .int .u64 (L3 xp), .int .u64 (L0 xq), .int .u64 (L1 xq), .int .u64 (L2 xq), .int .u64 (L3 xq)]), (52, .int .i64 gr), (9, .pointer (some ⟨gb9, 0, none⟩)), (10, .int .i64 gr)]
        ⟨I.val 0, I.val 1, I.val 2, I.val 3, I.val 4, I.val 5, ew9, I.val 8, trivial⟩ rfl]
      change W4.heap.size ≤ gb9 at lw9
      have sW5 : W4.heap.size ≤ W5.heap.size := I.below.size
      replace ow2 := I.keep ow2 trivial
      replace ow3 := I.keep ow3 trivial
      replace ow5 := I.keep ow5 trivial
      replace ow7 := I.keep ow7 trivial
      have hW5 : Below w.heap.size w W5 := then_ hW4 I.below hW4.size
      clear ew9
      clear I
      simp only [List.foldl_cons, List.foldl_nil, List.setIfInBounds_toArray, List.set_cons_zero, List.set_cons_succ]
      rcases Bool.eq_false_or_eq_true ((gr == 0)) with t3 | t3
      · have t3_ := Lib.hid t3
        clear t3
        go_upto_region 7 with fail
        refine region_memo_f (B := W5.heap.size) (L := .val (.int .i64 gr) :: .val (.bool true) :: .val (.bool true) :: .val (.agg #[.int .u64 (L0 xp), .int .u64 (L1 xp), .int .u64 (L2 xp), .int .u64 (L3 xp), .int .u64 (L0 xq), .int .u64 (L1 xq), .int .u64 (L2 xq), .int .u64 (L3 xq)]) :: .val (.agg #[.int .u64 (L0 an), .int .u64 (L1 an), .int .u64 (L2 an), .int .u64 (L3 an), .int .u64 (L0 ad), .int .u64 (L1 ad), .int .u64 (L2 ad), .int .u64 (L3 ad)]) :: .val (.bool false) :: .val (.bool false) :: .val (.bool false) :: .val (.int .i64 gr) :: .val (.bool false) :: .val (.bool false) :: .skip :: .skip :: .val (.bool false) :: .val (.bool false) :: []) (by kernel_rfl) (Nat.le_refl _) ((by exact trivial))
          ⟨fun a w R => mv (R.slot 10 rfl), fun a w R => c_eql_tk (R.val 0) (Tryd.underlying27) t3_.out, fun a w R => mv (R.val 1), fun a w R => ld_R (R.slot 9 rfl) (R.keep ow9 trivial) rfl rfl rfl rfl rfl rfl rfl rfl, fun a w R => ld_R (R.slot 2 rfl) (R.keep ow2 trivial) rfl rfl rfl rfl rfl rfl rfl rfl, fun a w R => (e_neq_R (R.val 3) (R.val 4) (fun w => (eq_Ratio hxp han hxq had w).trans (by rw [HXA.out t1_.out t3_.out]))), fun a w R => pickt (R.val 2) (R.val 5), fun a w R => mv (R.val 6), fun a w R => mv (R.slot 10 rfl), fun a w R => c_neq_tk (R.val 8) (Tryd.underlying27) (by rw [t3_.out]; rfl), fun a w R => mv (R.val 9), fun a w R => True.intro, fun a w R => True.intro, fun a w R => pickf (R.val 10) (R.goneS 12), fun a w R => pickn (R.val 7) (R.val 13), trivial⟩ (fun act_ W6 I => ?_)
        rw [I.act [(53, .int .i64 gr), (54, .bool true), (55, .bool true), (56, .agg #[.int .u64 (L0 xp), .int .u64 (L1 xp), .int .u64 (L2 xp), .int .u64 (L3 xp), .int .u64 (L0 xq), .int .u64 (L1 xq), .int .u64 (L2 xq), .int .u64 (L3 xq)]), (57, .agg #[.int .u64 (L0 an), .int .u64 (L1 an), .int .u64 (L2 an), .int .u64 (L3 an), .int .u64 (L0 ad), .int .u64 (L1 ad), .int .u64 (L2 ad), .int .u64 (L3 ad)]), (58, .bool false), (59, .bool false), (60, .bool false), (61, .int .i64 gr), (62, .bool false), (63, .bool false), (64, undef), (65, undef), (66, .bool false), (67, .bool false)]
          ⟨I.val 0, I.val 1, I.val 2, I.val 3, I.val 4, I.val 5, I.val 6, I.val 7, I.val 8, I.val 9, I.val 10, I.gone 11, I.gone 12, I.val 13, I.val 14, trivial⟩ rfl]
        have sW6 : W5.heap.size ≤ W6.heap.size := I.below.size
        replace ow2 := I.keep ow2 trivial
        replace ow3 := I.keep ow3 trivial
        replace ow5 := I.keep ow5 trivial
        replace ow7 := I.keep ow7 trivial
        replace ow9 := I.keep ow9 trivial
        have hW6 : Below w.heap.size w W6 := then_ hW5 I.below hW5.size
        clear I
        simp only [List.foldl_cons, List.foldl_nil, List.setIfInBounds_toArray, List.set_cons_zero, List.set_cons_succ]
        go_upto_region 9 with fail
        refine region_memo_f (B := W6.heap.size) (L := .val (.int .i64 fr) :: .val (.bool true) :: []) (by kernel_rfl) (Nat.le_refl _) ((by exact trivial))
          ⟨fun a w R => mv (R.slot 8 rfl), fun a w R => c_eql_tk (R.val 0) (Tryd.underlying27) t2_.out, trivial⟩ (fun act_ W7 I => ?_)
        rw [I.act [(68, .int .i64 fr), (69, .bool true)]
          ⟨I.val 0, I.val 1, trivial⟩ rfl]
        have sW7 : W6.heap.size ≤ W7.heap.size := I.below.size
        replace ow2 := I.keep ow2 trivial
        replace ow3 := I.keep ow3 trivial
        replace ow5 := I.keep ow5 trivial
        replace ow7 := I.keep ow7 trivial
        replace ow9 := I.keep ow9 trivial
        have hW7 : Below w.heap.size w W7 := then_ hW6 I.below hW6.size
        clear I
        simp only [List.foldl_cons, List.foldl_nil, List.setIfInBounds_toArray, List.set_cons_zero, List.set_cons_succ]
        go_upto_region 10 with fail
        refine region_memo_f (B := W7.heap.size) (L := .val (.agg #[.int .u64 (L0 up), .int .u64 (L1 up), .int .u64 (L2 up), .int .u64 (L3 up), .int .u64 (L0 uq), .int .u64 (L1 uq), .int .u64 (L2 uq), .int .u64 (L3 uq)]) :: .val (.agg #[.int .u64 (L0 bn), .int .u64 (L1 bn), .int .u64 (L2 bn), .int .u64 (L3 bn), .int .u64 (L0 bd), .int .u64 (L1 bd), .int .u64 (L2 bd), .int .u64 (L3 bd)]) :: .val (.tuple #[.agg #[.int .u64 (L0 yp), .int .u64 (L1 yp), .int .u64 (L2 yp), .int .u64 (L3 yp), .int .u64 (L0 yq), .int .u64 (L1 yq), .int .u64 (L2 yq), .int .u64 (L3 yq)], .int .i64 hr]) :: .val (.tuple #[.agg #[.int .u64 (L0 yp), .int .u64 (L1 yp), .int .u64 (L2 yp), .int .u64 (L3 yp), .int .u64 (L0 yq), .int .u64 (L1 yq), .int .u64 (L2 yq), .int .u64 (L3 yq)], .int .i64 hr]) :: .val (.agg #[.int .u64 (L0 yp), .int .u64 (L1 yp), .int .u64 (L2 yp), .int .u64 (L3 yp), .int .u64 (L0 yq), .int .u64 (L1 yq), .int .u64 (L2 yq), .int .u64 (L3 yq)]) :: .val (.int .i64 hr) :: .blk 26 8 :: .put 11 26 #[.int .u64 (L0 yp), .int .u64 (L1 yp), .int .u64 (L2 yp), .int .u64 (L3 yp), .int .u64 (L0 yq), .int .u64 (L1 yq), .int .u64 (L2 yq), .int .u64 (L3 yq)] :: .val (.int .i64 hr) :: []) (by kernel_rfl) (Nat.le_refl _) ((by exact trivial))
          ⟨fun a w R => ld_R (R.slot 7 rfl) (R.keep ow7 trivial) rfl rfl rfl rfl rfl rfl rfl rfl, fun a w R => ld_R (R.slot 3 rfl) (R.keep ow3 trivial) rfl rfl rfl rfl rfl rfl rfl rfl, fun a w R => cl_tt (enter_at Tryd.func12) (R.val 0) (R.val 1) (DV.out _), fun a w R => mv (R.val 2), fun a w R => ex0 (R.val 3), fun a w R => ex1 (R.val 3), fun a w R => al_R, fun a w R => sb_R (R.dep 6) (R.val 4), fun a w R => asg (R.val 5), trivial⟩ (fun act_ W8 I => ?_)
        obtain ⟨gb11, ew11, lw11, ow11⟩ := I.put 7 rfl rfl
        rw [I.act [(71, .agg #[.int .u64 (L0 up), .int .u64 (L1 up), .int .u64 (L2 up), .int .u64 (L3 up), .int .u64 (L0 uq), .int .u64 (L1 uq), .int .u64 (L2 uq), .int .u64 (L3 uq)]), (72, .agg #[.int .u64 (L0 bn), .int .u64 (L1 bn), .int .u64 (L2 bn), .int .u64 (L3 bn), .int .u64 (L0 bd), .int .u64 (L1 bd), .int .u64 (L2 bd), .int .u64 (L3 bd)]), (73, .tuple #[.agg #[.int .u64 (L0 yp), .int .u64 (L1 yp), .int .u64 (L2 yp), .int .u64 (L3 yp), .int .u64 (L0 yq), .int .u64 (L1 yq), .int .u64 (L2 yq), .int .u64 (L3 yq)], .int .i64 hr]), (70, .tuple #[.agg #[.int .u64 (L0 yp), .int .u64 (L1 yp), .int .u64 (L2 yp), .int .u64 (L3 yp), .int .u64 (L0 yq), .int .u64 (L1 yq), .int .u64 (L2 yq), .int .u64 (L3 yq)], .int .i64 hr]), (74, .agg #[.int .u64 (L0 yp), .int .u64 (L1 yp), .int .u64 (L2 yp), .int .u64 (L3 yp), .int .u64 (L0 yq), .int .u64 (L1 yq), .int .u64 (L2 yq), .int .u64 (L3 yq)]), (75, .int .i64 hr), (11, .pointer (some ⟨gb11, 0, none⟩)), (12, .int .i64 hr)]
          ⟨I.val 0, I.val 1, I.val 2, I.val 3, I.val 4, I.val 5, ew11, I.val 8, trivial⟩ rfl]
        change W7.heap.size ≤ gb11 at lw11
        have sW8 : W7.heap.size ≤ W8.heap.size := I.below.size
        replace ow2 := I.keep ow2 trivial
        replace ow3 := I.keep ow3 trivial
        replace ow5 := I.keep ow5 trivial
        replace ow7 := I.keep ow7 trivial
        replace ow9 := I.keep ow9 trivial
        have hW8 : Below w.heap.size w W8 := then_ hW7 I.below hW7.size
        clear ew11
        clear I
        simp only [List.foldl_cons, List.foldl_nil, List.setIfInBounds_toArray, List.set_cons_zero, List.set_cons_succ]
        rcases Bool.eq_false_or_eq_true ((hr == 0)) with t4 | t4
        · have t4_ := Lib.hid t4
          clear t4
          go_upto_region 11 with fail
          refine region_memo_f (B := W8.heap.size) (L := .val (.int .i64 hr) :: .val (.bool true) :: .val (.bool true) :: .val (.agg #[.int .u64 (L0 yp), .int .u64 (L1 yp), .int .u64 (L2 yp), .int .u64 (L3 yp), .int .u64 (L0 yq), .int .u64 (L1 yq), .int .u64 (L2 yq), .int .u64 (L3 yq)]) :: .val (.agg #[.int .u64 (L0 an), .int .u64 (L1 an), .int .u64 (L2 an), .int .u64 (L3 an), .int .u64 (L0 ad), .int .u64 (L1 ad), .int .u64 (L2 ad), .int .u64 (L3 ad)]) :: .val (.bool false) :: .val (.bool false) :: .val (.bool false) :: .val (.int .i64 hr) :: .val (.bool false) :: .val (.bool false) :: .skip :: .skip :: .val (.bool false) :: .val (.bool false) :: .skip :: .skip :: .val (.bool false) :: .val (.bool false) :: []) (by kernel_rfl) (Nat.le_refl _) ((by exact trivial))
            ⟨fun a w R => mv (R.slot 12 rfl), fun a w R => c_eql_tk (R.val 0) (Tryd.underlying27) t4_.out, fun a w R => mv (R.val 1), fun a w R => ld_R (R.slot 11 rfl) (R.keep ow11 trivial) rfl rfl rfl rfl rfl rfl rfl rfl, fun a w R => ld_R (R.slot 2 rfl) (R.keep ow2 trivial) rfl rfl rfl rfl rfl rfl rfl rfl, fun a w R => (e_neq_R (R.val 3) (R.val 4) (fun w => (eq_Ratio hyp han hyq had w).trans (by rw [HYA.out t2_.out t4_.out]))), fun a w R => pickt (R.val 2) (R.val 5), fun a w R => mv (R.val 6), fun a w R => mv (R.slot 12 rfl), fun a w R => c_neq_tk (R.val 8) (Tryd.underlying27) (by rw [t4_.out]; rfl), fun a w R => mv (R.val 9), fun a w R => True.intro, fun a w R => True.intro, fun a w R => pickf (R.val 10) (R.goneS 12), fun a w R => mv (R.val 13), fun a w R => True.intro, fun a w R => True.intro, fun a w R => pickf (R.val 14) (R.goneS 16), fun a w R => pickn (R.val 7) (R.val 17), trivial⟩ (fun act_ W9 I => ?_)
          rw [I.act [(76, .int .i64 hr), (77, .bool true), (78, .bool true), (79, .agg #[.int .u64 (L0 yp), .int .u64 (L1 yp), .int .u64 (L2 yp), .int .u64 (L3 yp), .int .u64 (L0 yq), .int .u64 (L1 yq), .int .u64 (L2 yq), .int .u64 (L3 yq)]), (80, .agg #[.int .u64 (L0 an), .int .u64 (L1 an), .int .u64 (L2 an), .int .u64 (L3 an), .int .u64 (L0 ad), .int .u64 (L1 ad), .int .u64 (L2 ad), .int .u64 (L3 ad)]), (81, .bool false), (82, .bool false), (83, .bool false), (84, .int .i64 hr), (85, .bool false), (86, .bool false), (87, undef), (88, undef), (89, .bool false), (90, .bool false), (91, undef), (92, undef), (93, .bool false), (94, .bool false)]
            ⟨I.val 0, I.val 1, I.val 2, I.val 3, I.val 4, I.val 5, I.val 6, I.val 7, I.val 8, I.val 9, I.val 10, I.gone 11, I.gone 12, I.val 13, I.val 14, I.gone 15, I.gone 16, I.val 17, I.val 18, trivial⟩ rfl]
          have sW9 : W8.heap.size ≤ W9.heap.size := I.below.size
          replace ow2 := I.keep ow2 trivial
          replace ow3 := I.keep ow3 trivial
          replace ow5 := I.keep ow5 trivial
          replace ow7 := I.keep ow7 trivial
          replace ow9 := I.keep ow9 trivial
          replace ow11 := I.keep ow11 trivial
          have hW9 : Below w.heap.size w W9 := then_ hW8 I.below hW8.size
          clear I
          simp only [List.foldl_cons, List.foldl_nil, List.setIfInBounds_toArray, List.set_cons_zero, List.set_cons_succ]
          go_upto_region 13 with fail
          refine region_memo_f (B := W9.heap.size) (L := .val (.bool true) :: []) (by kernel_rfl) (Nat.le_refl _) ((by exact trivial))
            ⟨fun a w R => asc, trivial⟩ (fun act_ W10 I => ?_)
          rw [I.act [(4, .bool true)]
            ⟨I.val 0, trivial⟩ rfl]
          have sW10 : W9.heap.size ≤ W10.heap.size := I.below.size
          replace ow2 := I.keep ow2 trivial
          replace ow3 := I.keep ow3 trivial
          replace ow5 := I.keep ow5 trivial
          replace ow7 := I.keep ow7 trivial
          replace ow9 := I.keep ow9 trivial
          replace ow11 := I.keep ow11 trivial
          have hW10 : Below w.heap.size w W10 := then_ hW9 I.below hW9.size
          clear I
          simp only [List.foldl_cons, List.foldl_nil, List.setIfInBounds_toArray, List.set_cons_zero, List.set_cons_succ]
          clear ow2 ow3 ow5 ow7 ow9 ow11
          go_wp2
          try simp only [setCell_drawn]
          refine bodyPost_ret (by first | (simp [results, Tryd.results3, go_sem]; done) | (simp [results, Tryd.results3, go_sem]; rfl)) rfl ⟨?_, hW10⟩
          rfl
        · have t4_ := Lib.hid t4
          clear t4
          rcases Bool.eq_false_or_eq_true ((hr == 3)) with t5 | t5
          · have t5_ := Lib.hid t5
            clear t5
            go_upto_region 11 with fail
            refine region_memo_f (B := W8.heap.size) (L := .val (.int .i64 hr) :: .val (.bool false) :: .val (.bool false) :: .skip :: .skip :: .skip :: .val (.bool false) :: .val (.bool false) :: .val (.int .i64 hr) :: .val (.bool true) :: .val (.bool true) :: .val (.int .i64 hr) :: .val (.bool false) :: .val (.bool false) :: .val (.bool false) :: .skip :: .skip :: .val (.bool false) :: .val (.bool false) :: []) (by kernel_rfl) (Nat.le_refl _) ((by exact trivial))
              ⟨fun a w R => mv (R.slot 12 rfl), fun a w R => c_eql_tk (R.val 0) (Tryd.underlying27) t4_.out, fun a w R => mv (R.val 1), fun a w R => True.intro, fun a w R => True.intro, fun a w R => True.intro, fun a w R => pickf (R.val 2) (R.goneS 5), fun a w R => mv (R.val 6), fun a w R => mv (R.slot 12 rfl), fun a w R => c_neq_tk (R.val 8) (Tryd.underlying27) (by rw [t4_.out]; rfl), fun a w R => mv (R.val 9), fun a w R => mv (R.slot 12 rfl), fun a w R => c_neq_tk (R.val 11) (Tryd.underlying27) (by rw [t5_.out]; rfl), fun a w R => pickt (R.val 10) (R.val 12), fun a w R => mv (R.val 13), fun a w R => True.intro, fun a w R => True.intro, fun a w R => pickf (R.val 14) (R.goneS 16), fun a w R => pickn (R.val 7) (R.val 17), trivial⟩ (fun act_ W9 I => ?_)
            rw [I.act [(76, .int .i64 hr), (77, .bool false), (78, .bool false), (79, undef), (80, undef), (81, undef), (82, .bool false), (83, .bool false), (84, .int .i64 hr), (85, .bool true), (86, .bool true), (87, .int .i64 hr), (88, .bool false), (89, .bool false), (90, .bool false), (91, undef), (92, undef), (93, .bool false), (94, .bool false)]
              ⟨I.val 0, I.val 1, I.val 2, I.gone 3, I.gone 4, I.gone 5, I.val 6, I.val 7, I.val 8, I.val 9, I.val 10, I.val 11, I.val 12, I.val 13, I.val 14, I.gone 15, I.gone 16, I.val 17, I.val 18, trivial⟩ rfl]
            have sW9 : W8.heap.size ≤ W9.heap.size := I.below.size
            replace ow2 := I.keep ow2 trivial
            replace ow3 := I.keep ow3 trivial
            replace ow5 := I.keep ow5 trivial
            replace ow7 := I.keep ow7 trivial
            replace ow9 := I.keep ow9 trivial
            replace ow11 := I.keep ow11 trivial
            have hW9 : Below w.heap.size w W9 := then_ hW8 I.below hW8.size
            clear I
            simp only [List.foldl_cons, List.foldl_nil, List.setIfInBounds_toArray, List.set_cons_zero, List.set_cons_succ]
            go_upto_region 13 with fail
            refine region_memo_f (B := W9.heap.size) (L := .val (.bool true) :: []) (by kernel_rfl) (Nat.le_refl _) ((by exact trivial))
              ⟨fun a w R => asc, trivial⟩ (fun act_ W10 I => ?_)
            rw [I.act [(4, .bool true)]
              ⟨I.val 0, trivial⟩ rfl]
            have sW10 : W9.heap.size ≤ W10.heap.size := I.below.size
            replace ow2 := I.keep ow2 trivial
            replace ow3 := I.keep ow3 trivial
            replace ow5 := I.keep ow5 trivial
            replace ow7 := I.keep ow7 trivial
            replace ow9 := I.keep ow9 trivial
            replace ow11 := I.keep ow11 trivial
            have hW10 : Below w.heap.size w W10 := then_ hW9 I.below hW9.size
            clear I
            simp only [List.foldl_cons, List.foldl_nil, List.setIfInBounds_toArray, List.set_cons_zero, List.set_cons_succ]
            clear ow2 ow3 ow5 ow7 ow9 ow11
            go_wp2
            try simp only [setCell_drawn]
            refine bodyPost_ret (by first | (simp [results, Tryd.results3, go_sem]; done) | (simp [results, Tryd.results3, go_sem]; rfl)) rfl ⟨?_, hW10⟩
            rfl
          · have t5_ := Lib.hid t5
            clear t5
            rcases Bool.eq_false_or_eq_true ((hr == 4)) with t6 | t6
            · have t6_ := Lib.hid t6
              clear t6
              go_upto_region 11 with fail
              refine region_memo_f (B := W8.heap.size) (L := .val (.int .i64 hr) :: .val (.bool false) :: .val (.bool false) :: .skip :: .skip :: .skip :: .val (.bool false) :: .val (.bool false) :: .val (.int .i64 hr) :: .val (.bool true) :: .val (.bool true) :: .val (.int .i64 hr) :: .val (.bool true) :: .val (.bool true) :: .val (.bool true) :: .val (.int .i64 hr) :: .val (.bool false) :: .val (.bool false) :: .val (.bool false) :: []) (by kernel_rfl) (Nat.le_refl _) ((by exact trivial))
                ⟨fun a w R => mv (R.slot 12 rfl), fun a w R => c_eql_tk (R.val 0) (Tryd.underlying27) t4_.out, fun a w R => mv (R.val 1), fun a w R => True.intro, fun a w R => True.intro, fun a w R => True.intro, fun a w R => pickf (R.val 2) (R.goneS 5), fun a w R => mv (R.val 6), fun a w R => mv (R.slot 12 rfl), fun a w R => c_neq_tk (R.val 8) (Tryd.underlying27) (by rw [t4_.out]; rfl), fun a w R => mv (R.val 9), fun a w R => mv (R.slot 12 rfl), fun a w R => c_neq_tk (R.val 11) (Tryd.underlying27) (by rw [t5_.out]; rfl), fun a w R => pickt (R.val 10) (R.val 12), fun a w R => mv (R.val 13), fun a w R => mv (R.slot 12 rfl), fun a w R => c_neq_tk (R.val 15) (Tryd.underlying27) (by rw [t6_.out]; rfl), fun a w R => pickt (R.val 14) (R.val 16), fun a w R => pickn (R.val 7) (R.val 17), trivial⟩ (fun act_ W9 I => ?_)
              rw [I.act [(76, .int .i64 hr), (77, .bool false), (78, .bool false), (79, undef), (80, undef), (81, undef), (82, .bool false), (83, .bool false), (84, .int .i64 hr), (85, .bool true), (86, .bool true), (87, .int .i64 hr), (88, .bool true), (89, .bool true), (90, .bool true), (91, .int .i64 hr), (92, .bool false), (93, .bool false), (94, .bool false)]
                ⟨I.val 0, I.val 1, I.val 2, I.gone 3, I.gone 4, I.gone 5, I.val 6, I.val 7, I.val 8, I.val 9, I.val 10, I.val 11, I.val 12, I.val 13, I.val 14, I.val 15, I.val 16, I.val 17, I.val 18, trivial⟩ rfl]
              have sW9 : W8.heap.size ≤ W9.heap.size := I.below.size
              replace ow2 := I.keep ow2 trivial
              replace ow3 := I.keep ow3 trivial
              replace ow5 := I.keep ow5 trivial
              replace ow7 := I.keep ow7 trivial
              replace ow9 := I.keep ow9 trivial
              replace ow11 := I.keep ow11 trivial
              have hW9 : Below w.heap.size w W9 := then_ hW8 I.below hW8.size
              clear I
              simp only [List.foldl_cons, List.foldl_nil, List.setIfInBounds_toArray, List.set_cons_zero, List.set_cons_succ]
              go_upto_region 13 with fail
              refine region_memo_f (B := W9.heap.size) (L := .val (.bool true) :: []) (by kernel_rfl) (Nat.le_refl _) ((by exact trivial))
                ⟨fun a w R => asc, trivial⟩ (fun act_ W10 I => ?_)
              rw [I.act [(4, .bool true)]
                ⟨I.val 0, trivial⟩ rfl]
              have sW10 : W9.heap.size ≤ W10.heap.size := I.below.size
              replace ow2 := I.keep ow2 trivial
              replace ow3 := I.keep ow3 trivial
              replace ow5 := I.keep ow5 trivial
              replace ow7 := I.keep ow7 trivial
              replace ow9 := I.keep ow9 trivial
              replace ow11 := I.keep ow11 trivial
              have hW10 : Below w.heap.size w W10 := then_ hW9 I.below hW9.size
              clear I
              simp only [List.foldl_cons, List.foldl_nil, List.setIfInBounds_toArray, List.set_cons_zero, List.set_cons_succ]
              clear ow2 ow3 ow5 ow7 ow9 ow11
              go_wp2
              try simp only [setCell_drawn]
              refine bodyPost_ret (by first | (simp [results, Tryd.results3, go_sem]; done) | (simp [results, Tryd.results3, go_sem]; rfl)) rfl ⟨?_, hW10⟩
              rfl
            · have t6_ := Lib.hid t6
              clear t6
              exact Bool.noConfusion ((HYN.out t2_.out t4_.out t5_.out).symm.trans t6_.out)
      · have t3_ := Lib.hid t3
        clear t3
        rcases Bool.eq_false_or_eq_true ((gr == 3)) with t7 | t7
        · have t7_ := Lib.hid t7
          clear t7
          go_upto_region 7 with fail
          refine region_memo_f (B := W5.heap.size) (L := .val (.int .i64 gr) :: .val (.bool false) :: .val (.bool false) :: .skip :: .skip :: .skip :: .val (.bool false) :: .val (.bool false) :: .val (.int .i64 gr) :: .val (.bool true) :: .val (.bool true) :: .val (.int .i64 gr) :: .val (.bool false) :: .val (.bool false) :: .val (.bool false) :: []) (by kernel_rfl) (Nat.le_refl _) ((by exact trivial))
            ⟨fun a w R => mv (R.slot 10 rfl), fun a w R => c_eql_tk (R.val 0) (Tryd.underlying27) t3_.out, fun a w R => mv (R.val 1), fun a w R => True.intro, fun a w R => True.intro, fun a w R => True.intro, fun a w R => pickf (R.val 2) (R.goneS 5), fun a w R => mv (R.val 6), fun a w R => mv (R.slot 10 rfl), fun a w R => c_neq_tk (R.val 8) (Tryd.underlying27) (by rw [t3_.out]; rfl), fun a w R => mv (R.val 9), fun a w R => mv (R.slot 10 rfl), fun a w R => c_neq_tk (R.val 11) (Tryd.underlying27) (by rw [t7_.out]; rfl), fun a w R => pickt (R.val 10) (R.val 12), fun a w R => pickn (R.val 7) (R.val 13), trivial⟩ (fun act_ W6 I => ?_)
          rw [I.act [(53, .int .i64 gr), (54, .bool false), (55, .bool false), (56, undef), (57, undef), (58, undef), (59, .bool false), (60, .bool false), (61, .int .i64 gr), (62, .bool true), (63, .bool true), (64, .int .i64 gr), (65, .bool false), (66, .bool false), (67, .bool false)]
            ⟨I.val 0, I.val 1, I.val 2, I.gone 3, I.gone 4, I.gone 5, I.val 6, I.val 7, I.val 8, I.val 9, I.val 10, I.val 11, I.val 12, I.val 13, I.val 14, trivial⟩ rfl]
          have sW6 : W5.heap.size ≤ W6.heap.size := I.below.size
          replace ow2 := I.keep ow2 trivial
          replace ow3 := I.keep ow3 trivial
          replace ow5 := I.keep ow5 trivial
          replace ow7 := I.keep ow7 trivial
          replace ow9 := I.keep ow9 trivial
          have hW6 : Below w.heap.size w W6 := then_ hW5 I.below hW5.size
          clear I
          simp only [List.foldl_cons, List.foldl_nil, List.setIfInBounds_toArray, List.set_cons_zero, List.set_cons_succ]
          go_upto_region 9 with fail
          refine region_memo_f (B := W6.heap.size) (L := .val (.int .i64 fr) :: .val (.bool true) :: []) (by kernel_rfl) (Nat.le_refl _) ((by exact trivial))
            ⟨fun a w R => mv (R.slot 8 rfl), fun a w R => c_eql_tk (R.val 0) (Tryd.underlying27) t2_.out, trivial⟩ (fun act_ W7 I => ?_)
          rw [I.act [(68, .int .i64 fr), (69, .bool true)]
            ⟨I.val 0, I.val 1, trivial⟩ rfl]
          have sW7 : W6.heap.size ≤ W7.heap.size := I.below.size
          replace ow2 := I.keep ow2 trivial
          replace ow3 := I.keep ow3 trivial
          replace ow5 := I.keep ow5 trivial
          replace ow7 := I.keep ow7 trivial
          replace ow9 := I.keep ow9 trivial
          have hW7 : Below w.heap.size w W7 := then_ hW6 I.below hW6.size
          clear I
          simp only [List.foldl_cons, List.foldl_nil, List.setIfInBounds_toArray, List.set_cons_zero, List.set_cons_succ]
          go_upto_region 10 with fail
          refine region_memo_f (B := W7.heap.size) (L := .val (.agg #[.int .u64 (L0 up), .int .u64 (L1 up), .int .u64 (L2 up), .int .u64 (L3 up), .int .u64 (L0 uq), .int .u64 (L1 uq), .int .u64 (L2 uq), .int .u64 (L3 uq)]) :: .val (.agg #[.int .u64 (L0 bn), .int .u64 (L1 bn), .int .u64 (L2 bn), .int .u64 (L3 bn), .int .u64 (L0 bd), .int .u64 (L1 bd), .int .u64 (L2 bd), .int .u64 (L3 bd)]) :: .val (.tuple #[.agg #[.int .u64 (L0 yp), .int .u64 (L1 yp), .int .u64 (L2 yp), .int .u64 (L3 yp), .int .u64 (L0 yq), .int .u64 (L1 yq), .int .u64 (L2 yq), .int .u64 (L3 yq)], .int .i64 hr]) :: .val (.tuple #[.agg #[.int .u64 (L0 yp), .int .u64 (L1 yp), .int .u64 (L2 yp), .int .u64 (L3 yp), .int .u64 (L0 yq), .int .u64 (L1 yq), .int .u64 (L2 yq), .int .u64 (L3 yq)], .int .i64 hr]) :: .val (.agg #[.int .u64 (L0 yp), .int .u64 (L1 yp), .int .u64 (L2 yp), .int .u64 (L3 yp), .int .u64 (L0 yq), .int .u64 (L1 yq), .int .u64 (L2 yq), .int .u64 (L3 yq)]) :: .val (.int .i64 hr) :: .blk 26 8 :: .put 11 26 #[.int .u64 (L0 yp), .int .u64 (L1 yp), .int .u64 (L2 yp), .int .u64 (L3 yp), .int .u64 (L0 yq), .int .u64 (L1 yq), .int .u64 (L2 yq), .int .u64 (L3 yq)] :: .val (.int .i64 hr) :: []) (by kernel_rfl) (Nat.le_refl _) ((by exact trivial))
            ⟨fun a w R => ld_R (R.slot 7 rfl) (R.keep ow7 trivial) rfl rfl rfl rfl rfl rfl rfl rfl, fun a w R => ld_R (R.slot 3 rfl) (R.keep ow3 trivial) rfl rfl rfl rfl rfl rfl rfl rfl, fun a w R => cl_tt (enter_at Tryd.func12) (R.val 0) (R.val 1) (DV.out _), fun a w R => mv (R.val 2), fun a w R => ex0 (R.val 3), fun a w R => ex1 (R.val 3), fun a w R => al_R, fun a w R => sb_R (R.dep 6) (R.val 4), fun a w R => asg (R.val 5), trivial⟩ (fun act_ W8 I => ?_)
          obtain ⟨gb11, ew11, lw11, ow11⟩ := I.put 7 rfl rfl
          rw [I.act [(71, .agg #[.int .u64 (L0 up), .int .u64 (L1 up), .int .u64 (L2 up), .int .u64 (L3 up), .int .u64 (L0 uq), .int .u64 (L1 uq), .int .u64 (L2 uq), .int .u64 (L3 uq)]), (72, .agg #[.int .u64 (L0 bn), .int .u64 (L1 bn), .int .u64 (L2 bn), .int .u64 (L3 bn), .int .u64 (L0 bd), .int .u64 (L1 bd), .int .u64 (L2 bd), .int .u64 (L3 bd)]), (73, .tuple #[.agg #[.int .u64 (L0 yp), .int .u64 (L1 yp), .int .u64 (L2 yp), .int .u64 (L3 yp), .int .u64 (L0 yq), .int .u64 (L1 yq), .int .u64 (L2 yq), .int .u64 (L3 yq)], .int .i64 hr]), (70, .tuple #[.agg #[.int .u64 (L0 yp), .int .u64 (L1 yp), .int .u64 (L2 yp), .int .u64 (L3 yp), .int .u64 (L0 yq), .int .u64 (L1 yq), .int .u64 (L2 yq), .int .u64 (L3 yq)], .int .i64 hr]), (74, .agg #[.int .u64 (L0 yp), .int .u64 (L1 yp), .int .u64 (L2 yp), .int .u64 (L3 yp), .int .u64 (L0 yq), .int .u64 (L1 yq), .int .u64 (L2 yq), .int .u64 (L3 yq)]), (75, .int .i64 hr), (11, .pointer (some ⟨gb11, 0, none⟩)), (12, .int .i64 hr)]
            ⟨I.val 0, I.val 1, I.val 2, I.val 3, I.val 4, I.val 5, ew11, I.val 8, trivial⟩ rfl]
          change W7.heap.size ≤ gb11 at lw11
          have sW8 : W7.heap.size ≤ W8.heap.size := I.below.size
          replace ow2 := I.keep ow2 trivial
          replace ow3 := I.keep ow3 trivial
          replace ow5 := I.keep ow5 trivial
          replace ow7 := I.keep ow7 trivial
          replace ow9 := I.keep ow9 trivial
          have hW8 : Below w.heap.size w W8 := then_ hW7 I.below hW7.size
          clear ew11
          clear I
          simp only [List.foldl_cons, List.foldl_nil, List.setIfInBounds_toArray, List.set_cons_zero, List.set_cons_succ]
          rcases Bool.eq_false_or_eq_true ((hr == 0)) with t8 | t8
          · have t8_ := Lib.hid t8
            clear t8
            go_upto_region 11 with fail
            refine region_memo_f (B := W8.heap.size) (L := .val (.int .i64 hr) :: .val (.bool true) :: .val (.bool true) :: .val (.agg #[.int .u64 (L0 yp), .int .u64 (L1 yp), .int .u64 (L2 yp), .int .u64 (L3 yp), .int .u64 (L0 yq), .int .u64 (L1 yq), .int .u64 (L2 yq), .int .u64 (L3 yq)]) :: .val (.agg #[.int .u64 (L0 an), .int .u64 (L1 an), .int .u64 (L2 an), .int .u64 (L3 an), .int .u64 (L0 ad), .int .u64 (L1 ad), .int .u64 (L2 ad), .int .u64 (L3 ad)]) :: .val (.bool false) :: .val (.bool false) :: .val (.bool false) :: .val (.int .i64 hr) :: .val (.bool false) :: .val (.bool false) :: .skip :: .skip :: .val (.bool false) :: .val (.bool false) :: .skip :: .skip :: .val (.bool false) :: .val (.bool false) :: []) (by kernel_rfl) (Nat.le_refl _) ((by exact trivial))
              ⟨fun a w R => mv (R.slot 12 rfl), fun a w R => c_eql_tk (R.val 0) (Tryd.underlying27) t8_.out, fun a w R => mv (R.val 1), fun a w R => ld_R (R.slot 11 rfl) (R.keep ow11 trivial) rfl rfl rfl rfl rfl rfl rfl rfl, fun a w R => ld_R (R.slot 2 rfl) (R.keep ow2 trivial) rfl rfl rfl rfl rfl rfl rfl rfl, fun a w R => (e_neq_R (R.val 3) (R.val 4) (fun w => (eq_Ratio hyp han hyq had w).trans (by rw [HYA.out t2_.out t8_.out]))), fun a w R => pickt (R.val 2) (R.val 5), fun a w R => mv (R.val 6), fun a w R => mv (R.slot 12 rfl), fun a w R => c_neq_tk (R.val 8) (Tryd.underlying27) (by rw [t8_.out]; rfl), fun a w R => mv (R.val 9), fun a w R => True.intro, fun a w R => True.intro, fun a w R => pickf (R.val 10) (R.goneS 12), fun a w R => mv (R.val 13), fun a w R => True.intro, fun a w R => True.intro, fun a w R => pickf (R.val 14) (R.goneS 16), fun a w R => pickn (R.val 7) (R.val 17), trivial⟩ (fun act_ W9 I => ?_)
            rw [I.act [(76, .int .i64 hr), (77, .bool true), (78, .bool true), (79, .agg #[.int .u64 (L0 yp), .int .u64 (L1 yp), .int .u64 (L2 yp), .int .u64 (L3 yp), .int .u64 (L0 yq), .int .u64 (L1 yq), .int .u64 (L2 yq), .int .u64 (L3 yq)]), (80, .agg #[.int .u64 (L0 an), .int .u64 (L1 an), .int .u64 (L2 an), .int .u64 (L3 an), .int .u64 (L0 ad), .int .u64 (L1 ad), .int .u64 (L2 ad), .int .u64 (L3 ad)]), (81, .bool false), (82, .bool false), (83, .bool false), (84, .int .i64 hr), (85, .bool false), (86, .bool false), (87, undef), (88, undef), (89, .bool false), (90, .bool false), (91, undef), (92, undef), (93, .bool false), (94, .bool false)]
              ⟨I.val 0, I.val 1, I.val 2, I.val 3, I.val 4, I.val 5, I.val 6, I.val 7, I.val 8, I.val 9, I.val 10, I.gone 11, I.gone 12, I.val 13, I.val 14, I.gone 15, I.gone 16, I.val 17, I.val 18, trivial⟩ rfl]
            have sW9 : W8.heap.size ≤ W9.heap.size := I.below.size
            replace ow2 := I.keep ow2 trivial
            replace ow3 := I.keep ow3 trivial
            replace ow5 := I.keep ow5 trivial
            replace ow7 := I.keep ow7 trivial
            replace ow9 := I.keep ow9 trivial
            replace ow11 := I.keep ow11 trivial
            have hW9 : Below w.heap.size w W9 := then_ hW8 I.below hW8.size
            clear I
            simp only [List.foldl_cons, List.foldl_nil, List.setIfInBounds_toArray, List.set_cons_zero, List.set_cons_succ]
            go_upto_region 13 with fail
            refine region_memo_f (B := W9.heap.size) (L := .val (.bool true) :: []) (by kernel_rfl) (Nat.le_refl _) ((by exact trivial))
              ⟨fun a w R => asc, trivial⟩ (fun act_ W10 I => ?_)
            rw [I.act [(4, .bool true)]
              ⟨I.val 0, trivial⟩ rfl]
            have sW10 : W9.heap.size ≤ W10.heap.size := I.below.size
            replace ow2 := I.keep ow2 trivial
            replace ow3 := I.keep ow3 trivial
            replace ow5 := I.keep ow5 trivial
            replace ow7 := I.keep ow7 trivial
            replace ow9 := I.keep ow9 trivial
            replace ow11 := I.keep ow11 trivial
            have hW10 : Below w.heap.size w W10 := then_ hW9 I.below hW9.size
            clear I
            simp only [List.foldl_cons, List.foldl_nil, List.setIfInBounds_toArray, List.set_cons_zero, List.set_cons_succ]
            clear ow2 ow3 ow5 ow7 ow9 ow11
            go_wp2
            try simp only [setCell_drawn]
            refine bodyPost_ret (by first | (simp [results, Tryd.results3, go_sem]; done) | (simp [results, Tryd.results3, go_sem]; rfl)) rfl ⟨?_, hW10⟩
            rfl
          · have t8_ := Lib.hid t8
            clear t8
            rcases Bool.eq_false_or_eq_true ((hr == 3)) with t9 | t9
            · have t9_ := Lib.hid t9
              clear t9
              go_upto_region 11 with fail
              refine region_memo_f (B := W8.heap.size) (L := .val (.int .i64 hr) :: .val (.bool false) :: .val (.bool false) :: .skip :: .skip :: .skip :: .val (.bool false) :: .val (.bool false) :: .val (.int .i64 hr) :: .val (.bool true) :: .val (.bool true) :: .val (.int .i64 hr) :: .val (.bool false) :: .val (.bool false) :: .val (.bool false) :: .skip :: .skip :: .val (.bool false) :: .val (.bool false) :: []) (by kernel_rfl) (Nat.le_refl _) ((by exact trivial))
                ⟨fun a w R => mv (R.slot 12 rfl), fun a w R => c_eql_tk (R.val 0) (Tryd.underlying27) t8_.out, fun a w R => mv (R.val 1), fun a w R => True.intro, fun a w R => True.intro, fun a w R => True.intro, fun a w R => pickf (R.val 2) (R.goneS 5), fun a w R => mv (R.val 6), fun a w R => mv (R.slot 12 rfl), fun a w R => c_neq_tk (R.val 8) (Tryd.underlying27) (by rw [t8_.out]; rfl), fun a w R => mv (R.val 9), fun a w R => mv (R.slot 12 rfl), fun a w R => c_neq_tk (R.val 11) (Tryd.underlying27) (by rw [t9_.out]; rfl), fun a w R => pickt (R.val 10) (R.val 12), fun a w R => mv (R.val 13), fun a w R => True.intro, fun a w R => True.intro, fun a w R => pickf (R.val 14) (R.goneS 16), fun a w R => pickn (R.val 7) (R.val 17), trivial⟩ (fun act_ W9 I => ?_)
              rw [I.act [(76, .int .i64 hr), (77, .bool false), (78, .bool false), (79, undef), (80, undef), (81, undef), (82, .bool false), (83, .bool false), (84, .int .i64 hr), (85, .bool true), (86, .bool true), (87, .int .i64 hr), (88, .bool false), (89, .bool false), (90, .bool false), (91, undef), (92, undef), (93, .bool false), (94, .bool false)]
                ⟨I.val 0, I.val 1, I.val 2, I.gone 3, I.gone 4, I.gone 5, I.val 6, I.val 7, I.val 8, I.val 9, I.val 10, I.val 11, I.val 12, I.val 13, I.val 14, I.gone 15, I.gone 16, I.val 17, I.val 18, trivial⟩ rfl]
              have sW9 : W8.heap.size ≤ W9.heap.size := I.below.size
              replace ow2 := I.keep ow2 trivial
              replace ow3 := I.keep ow3 trivial
              replace ow5 := I.keep ow5 trivial
              replace ow7 := I.keep ow7 trivial
              replace ow9 := I.keep ow9 trivial
              replace ow11 := I.keep ow11 trivial
              have hW9 : Below w.heap.size w W9 := then_ hW8 I.below hW8.size
              clear I
              simp only [List.foldl_cons, List.foldl_nil, List.setIfInBounds_toArray, List.set_cons_zero, List.set_cons_succ]
              go_upto_region 13 with fail
              refine region_memo_f (B := W9.heap.size) (L := .val (.bool true) :: []) (by kernel_rfl) (Nat.le_refl _) ((by exact trivial))
                ⟨fun a w R => asc, trivial⟩ (fun act_ W10 I => ?_)
              rw [I.act [(4, .bool true)]
                ⟨I.val 0, trivial⟩ rfl]
              have sW10 : W9.heap.size ≤ W10.heap.size := I.below.size
              replace ow2 := I.keep ow2 trivial
              replace ow3 := I.keep ow3 trivial
              replace ow5 := I.keep ow5 trivial
              replace ow7 := I.keep ow7 trivial
              replace ow9 := I.keep ow9 trivial
              replace ow11 := I.keep ow11 trivial
              have hW10 : Below w.heap.size w W10 := then_ hW9 I.below hW9.size
              clear I
              simp only [List.foldl_cons, List.foldl_nil, List.setIfInBounds_toArray, List.set_cons_zero, List.set_cons_succ]
              clear ow2 ow3 ow5 ow7 ow9 ow11
              go_wp2
              try simp only [setCell_drawn]
              refine bodyPost_ret (by first | (simp [results, Tryd.results3, go_sem]; done) | (simp [results, Tryd.results3, go_sem]; rfl)) rfl ⟨?_, hW10⟩
              rfl
            · have t9_ := Lib.hid t9
              clear t9
              rcases Bool.eq_false_or_eq_true ((hr == 4)) with t10 | t10
              · have t10_ := Lib.hid t10
                clear t10
                go_upto_region 11 with fail
                refine region_memo_f (B := W8.heap.size) (L := .val (.int .i64 hr) :: .val (.bool false) :: .val (.bool false) :: .skip :: .skip :: .skip :: .val (.bool false) :: .val (.bool false) :: .val (.int .i64 hr) :: .val (.bool true) :: .val (.bool true) :: .val (.int .i64 hr) :: .val (.bool true) :: .val (.bool true) :: .val (.bool true) :: .val (.int .i64 hr) :: .val (.bool false) :: .val (.bool false) :: .val (.bool false) :: []) (by kernel_rfl) (Nat.le_refl _) ((by exact trivial))
                  ⟨fun a w R => mv (R.slot 12 rfl), fun a w R => c_eql_tk (R.val 0) (Tryd.underlying27) t8_.out, fun a w R => mv (R.val 1), fun a w R => True.intro, fun a w R => True.intro, fun a w R => True.intro, fun a w R => pickf (R.val 2) (R.goneS 5), fun a w R => mv (R.val 6), fun a w R => mv (R.slot 12 rfl), fun a w R => c_neq_tk (R.val 8) (Tryd.underlying27) (by rw [t8_.out]; rfl), fun a w R => mv (R.val 9), fun a w R => mv (R.slot 12 rfl), fun a w R => c_neq_tk (R.val 11) (Tryd.underlying27) (by rw [t9_.out]; rfl), fun a w R => pickt (R.val 10) (R.val 12), fun a w R => mv (R.val 13), fun a w R => mv (R.slot 12 rfl), fun a w R => c_neq_tk (R.val 15) (Tryd.underlying27) (by rw [t10_.out]; rfl), fun a w R => pickt (R.val 14) (R.val 16), fun a w R => pickn (R.val 7) (R.val 17), trivial⟩ (fun act_ W9 I => ?_)
                rw [I.act [(76, .int .i64 hr), (77, .bool false), (78, .bool false), (79, undef), (80, undef), (81, undef), (82, .bool false), (83, .bool false), (84, .int .i64 hr), (85, .bool true), (86, .bool true), (87, .int .i64 hr), (88, .bool true), (89, .bool true), (90, .bool true), (91, .int .i64 hr), (92, .bool false), (93, .bool false), (94, .bool false)]
                  ⟨I.val 0, I.val 1, I.val 2, I.gone 3, I.gone 4, I.gone 5, I.val 6, I.val 7, I.val 8, I.val 9, I.val 10, I.val 11, I.val 12, I.val 13, I.val 14, I.val 15, I.val 16, I.val 17, I.val 18, trivial⟩ rfl]
                have sW9 : W8.heap.size ≤ W9.heap.size := I.below.size
                replace ow2 := I.keep ow2 trivial
                replace ow3 := I.keep ow3 trivial
                replace ow5 := I.keep ow5 trivial
                replace ow7 := I.keep ow7 trivial
                replace ow9 := I.keep ow9 trivial
                replace ow11 := I.keep ow11 trivial
                have hW9 : Below w.heap.size w W9 := then_ hW8 I.below hW8.size
                clear I
                simp only [List.foldl_cons, List.foldl_nil, List.setIfInBounds_toArray, List.set_cons_zero, List.set_cons_succ]
                go_upto_region 13 with fail
                refine region_memo_f (B := W9.heap.size) (L := .val (.bool true) :: []) (by kernel_rfl) (Nat.le_refl _) ((by exact trivial))
                  ⟨fun a w R => asc, trivial⟩ (fun act_ W10 I => ?_)
                rw [I.act [(4, .bool true)]
                  ⟨I.val 0, trivial⟩ rfl]
                have sW10 : W9.heap.size ≤ W10.heap.size := I.below.size
                replace ow2 := I.keep ow2 trivial
                replace ow3 := I.keep ow3 trivial
                replace ow5 := I.keep ow5 trivial
                replace ow7 := I.keep ow7 trivial
                replace ow9 := I.keep ow9 trivial
                replace ow11 := I.keep ow11 trivial
                have hW10 : Below w.heap.size w W10 := then_ hW9 I.below hW9.size
                clear I
                simp only [List.foldl_cons, List.foldl_nil, List.setIfInBounds_toArray, List.set_cons_zero, List.set_cons_succ]
                clear ow2 ow3 ow5 ow7 ow9 ow11
                go_wp2
                try simp only [setCell_drawn]
                refine bodyPost_ret (by first | (simp [results, Tryd.results3, go_sem]; done) | (simp [results, Tryd.results3, go_sem]; rfl)) rfl ⟨?_, hW10⟩
                rfl
              · have t10_ := Lib.hid t10
                clear t10
                exact Bool.noConfusion ((HYN.out t2_.out t8_.out t9_.out).symm.trans t10_.out)
        · have t7_ := Lib.hid t7
          clear t7
          exact Bool.noConfusion ((HXN.out t1_.out t3_.out).symm.trans t7_.out)
    · have t2_ := Lib.hid t2
      clear t2
      go_upto_region 3 with fail
      refine region_memo_f (B := W2.heap.size) (L := .val (.bool true) :: .val (.bool false) :: .val (.bool false) :: .val (.int .i64 er) :: .val (.bool true) :: .val (.bool true) :: .val (.agg #[.int .u64 (L0 sp), .int .u64 (L1 sp), .int .u64 (L2 sp), .int .u64 (L3 sp), .int .u64 (L0 sq), .int .u64 (L1 sq), .int .u64 (L2 sq), .int .u64 (L3 sq)]) :: .val (.bool true) :: .val (.bool false) :: .val (.bool false) :: .val (.bool false) :: .val (.bool false) :: .val (.int .i64 fr) :: .val (.bool false) :: .val (.bool false) :: .skip :: .skip :: .skip :: .val (.bool false) :: .val (.bool false) :: []) (by kernel_rfl) (Nat.le_refl _) ((by exact trivial))
        ⟨fun a w R => cl_0 (enter_at Tryd.func9)  (awake4 _ ((hp.keep hW2).keep R.below)), fun a w R => notb (R.val 0), fun a w R => mv (R.val 1), fun a w R => mv (R.slot 6 rfl), fun a w R => c_eql_tk (R.val 3) (Tryd.underlying27) t1_.out, fun a w R => mv (R.val 4), fun a w R => ld_R (R.slot 5 rfl) (R.keep ow5 trivial) rfl rfl rfl rfl rfl rfl rfl rfl, fun a w R => cl_t (enter_at Tryd.func10) (R.val 6) (RS.out t1_.out _), fun a w R => notb (R.val 7), fun a w R => pickt (R.val 5) (R.val 8), fun a w R => pickn (R.val 2) (R.val 9), fun a w R => mv (R.val 10), fun a w R => mv (R.slot 8 rfl), fun a w R => c_eql_tk (R.val 12) (Tryd.underlying27) t2_.out, fun a w R => mv (R.val 13), fun a w R => True.intro, fun a w R => True.intro, fun a w R => True.intro, fun a w R => pickf (R.val 14) (R.goneS 17), fun a w R => pickn (R.val 11) (R.val 18), trivial⟩ (fun act_ W3 I => ?_)
      rw [I.act [(25, .bool true), (26, .bool false), (27, .bool false), (28, .int .i64 er), (29, .bool true), (30, .bool true), (31, .agg #[.int .u64 (L0 sp), .int .u64 (L1 sp), .int .u64 (L2 sp), .int .u64 (L3 sp), .int .u64 (L0 sq), .int .u64 (L1 sq), .int .u64 (L2 sq), .int .u64 (L3 sq)]), (32, .bool true), (33, .bool false), (34, .bool false), (35, .bool false), (36, .bool false), (37, .int .i64 fr), (38, .bool false), (39, .bool false), (40, undef), (41, undef), (42, undef), (43, .bool false), (44, .bool false)]
        ⟨I.val 0, I.val 1, I.val 2, I.val 3, I.val 4, I.val 5, I.val 6, I.val 7, I.val 8, I.val 9, I.val 10, I.val 11, I.val 12, I.val 13, I.val 14, I.gone 15, I.gone 16, I.gone 17, I.val 18, I.val 19, trivial⟩ rfl]
      have sW3 : W2.heap.size ≤ W3.heap.size := I.below.size
      replace ow2 := I.keep ow2 trivial
      replace ow3 := I.keep ow3 trivial
      replace ow5 := I.keep ow5 trivial
      replace ow7 := I.keep ow7 trivial
      have hW3 : Below w.heap.size w W3 := then_ hW2 I.below hW2.size
      clear I
      simp only [List.foldl_cons, List.foldl_nil, List.setIfInBounds_toArray, List.set_cons_zero, List.set_cons_succ]
      go_upto_region 5 with fail
      refine region_memo_f (B := W3.heap.size) (L := .val (.int .i64 er) :: .val (.bool true) :: []) (by kernel_rfl) (Nat.le_refl _) ((by exact trivial))
        ⟨fun a w R => mv (R.slot 6 rfl), fun a w R => c_eql_tk (R.val 0) (Tryd.underlying27) t1_.out, trivial⟩ (fun act_ W4 I => ?_)
      rw [I.act [(45, .int .i64 er), (46, .bool true)]
        ⟨I.val 0, I.val 1, trivial⟩ rfl]
      have sW4 : W3.heap.size ≤ W4.heap.size := I.below.size
      replace ow2 := I.keep ow2 trivial
      replace ow3 := I.keep ow3 trivial
      replace ow5 := I.keep ow5 trivial
      replace ow7 := I.keep ow7 trivial
      have hW4 : Below w.heap.size w W4 := then_ hW3 I.below hW3.size
      clear I
      simp only [List.foldl_cons, List.foldl_nil, List.setIfInBounds_toArray, List.set_cons_zero, List.set_cons_succ]
      go_upto_region 6 with fail
      refine region_memo_f (B := W4.heap.size) (L := .val (.agg #[.int .u64 (L0 sp), .int .u64 (L1 sp), .int .u64 (L2 sp), .int .u64 (L3 sp), .int .u64 (L0 sq), .int .u64 (L1 sq), .int .u64 (L2 sq), .int .u64 (L3 sq)]) :: .val (.agg #[.int .u64 (L0 bn), .int .u64 (L1 bn), .int .u64 (L2 bn), .int .u64 (L3 bn), .int .u64 (L0 bd), .int .u64 (L1 bd), .int .u64 (L2 bd), .int .u64 (L3 bd)]) :: .val (.tuple #[.agg #[.int .u64 (L0 xp), .int .u64 (L1 xp), .int .u64 (L2 xp), .int .u64 (L3 xp), .int .u64 (L0 xq), .int .u64 (L1 xq), .int .u64 (L2 xq), .int .u64 (L3 xq)], .int .i64 gr]) :: .val (.tuple #[.agg #[.int .u64 (L0 xp), .int .u64 (L1 xp), .int .u64 (L2 xp), .int .u64 (L3 xp), .int .u64 (L0 xq), .int .u64 (L1 xq), .int .u64 (L2 xq), .int .u64 (L3 xq)], .int .i64 gr]) :: .val (.agg #[.int .u64 (L0 xp), .int .u64 (L1 xp), .int .u64 (L2 xp), .int .u64 (L3 xp), .int .u64 (L0 xq), .int .u64 (L1 xq), .int .u64 (L2 xq), .int .u64 (L3 xq)]) :: .val (.int .i64 gr) :: .blk 26 8 :: .put 9 26 #[.int .u64 (L0 xp), .int .u64 (L1 xp), .int .u64 (L2 xp), .int .u64 (L3 xp), .int .u64 (L0 xq), .int .u64 (L1 xq), .int .u64 (L2 xq), .int .u64 (L3 xq)] :: .val (.int .i64 gr) :: []) (by kernel_rfl) (Nat.le_refl _) ((by exact trivial))
        ⟨fun a w R => ld_R (R.slot 5 rfl) (R.keep ow5 trivial) rfl rfl rfl rfl rfl rfl rfl rfl, fun a w R => ld_R (R.slot 3 rfl) (R.keep ow3 trivial) rfl rfl rfl rfl rfl rfl rfl rfl, fun a w R => cl_tt (enter_at Tryd.func11) (R.val 0) (R.val 1) (SU.out _), fun a w R => mv (R.val 2), fun a w R => ex0 (R.val 3), fun a w R => ex1 (R.val 3), fun a w R => al_R, fun a w R => sb_R (R.dep 6) (R.val 4), fun a w R => asg (R.val 5), trivial⟩ (fun act_ W5 I => ?_)
      obtain ⟨gb9, ew9, lw9, ow9⟩ := I.put 7 rfl rfl
      rw [I.act [(48, .agg #[.int .u64 (L0 sp), .int .u64 (L1 sp), .int .u64 (L2 sp), .int .u64 (L3 sp), .int .u64 (L0 sq), .int .u64 (L1 sq), .int .u64 (L2 sq), .int .u64 (L3 sq)]), (49, .agg #[.int .u64 (L0 bn), .int .u64 (L1 bn), .int .u64 (L2 bn), .int .u64 (L3 bn), .int .u64 (L0 bd), .int .u64 (L1 bd), .int .u64 (L2 bd), .int .u64 (L3 bd)]), (50, .tuple #[.agg #[.int .u64 (L0 xp), .int .u64 (L1 xp), .int .u64 (L2 xp), .int .u64 (L3 xp), .int .u64 (L0 xq), .int .u64 (L1 xq), .int .u64 (L2 xq), .int .u64 (L3 xq)], .int .i64 gr]), (47, .tuple #[.agg #[.int .u64 (L0 xp), .int .u64 (L1 xp), .int .u64 (L2 xp), .int .u64 (L3 xp), .int .u64 (L0 xq), .int .u64 (L1 xq), .int .u64 (L2 xq), .int .u64 (L3 xq)], .int .i64 gr]), (51, .agg #[.int .u64 (L0 xp), .int .u64 (L1 xp), .int .u64 (L2 xp), .int .u64 (L3 xp), .int .u64 (L0 xq), .int .u64 (L1 xq), .int .u64 (L2 xq), .int .u64 (L3 xq)]), (52, .int .i64 gr), (9, .pointer (some ⟨gb9, 0, none⟩)), (10, .int .i64 gr)]
        ⟨I.val 0, I.val 1, I.val 2, I.val 3, I.val 4, I.val 5, ew9, I.val 8, trivial⟩ rfl]
      change W4.heap.size ≤ gb9 at lw9
      have sW5 : W4.heap.size ≤ W5.heap.size := I.below.size
      replace ow2 := I.keep ow2 trivial
      replace ow3 := I.keep ow3 trivial
      replace ow5 := I.keep ow5 trivial
      replace ow7 := I.keep ow7 trivial
      have hW5 : Below w.heap.size w W5 := then_ hW4 I.below hW4.size
      clear ew9
      clear I
      simp only [List.foldl_cons, List.foldl_nil, List.setIfInBounds_toArray, List.set_cons_zero, List.set_cons_succ]
      rcases Bool.eq_false_or_eq_true ((gr == 0)) with t11 | t11
      · have t11_ := Lib.hid t11
        clear t11
        go_upto_region 7 with fail
        refine region_memo_f (B := W5.heap.size) (L := .val (.int .i64 gr) :: .val (.bool true) :: .val (.bool true) :: .val (.agg #[.int .u64 (L0 xp), .int .u64 (L1 xp), .int .u64 (L2 xp), .int .u64 (L3 xp), .int .u64 (L0 xq), .int .u64 (L1 xq), .int .u64 (L2 xq), .int .u64 (L3 xq)]) :: .val (.agg #[.int .u64 (L0 an), .int .u64 (L1 an), .int .u64 (L2 an), .int .u64 (L3 an), .int .u64 (L0 ad), .int .u64 (L1 ad), .int .u64 (L2 ad), .int .u64 (L3 ad)]) :: .val (.bool false) :: .val (.bool false) :: .val (.bool false) :: .val (.int .i64 gr) :: .val (.bool false) :: .val (.bool false) :: .skip :: .skip :: .val (.bool false) :: .val (.bool false) :: []) (by kernel_rfl) (Nat.le_refl _) ((by exact trivial))
          ⟨fun a w R => mv (R.slot 10 rfl), fun a w R => c_eql_tk (R.val 0) (Tryd.underlying27) t11_.out, fun a w R => mv (R.val 1), fun a w R => ld_R (R.slot 9 rfl) (R.keep ow9 trivial) rfl rfl rfl rfl rfl rfl rfl rfl, fun a w R => ld_R (R.slot 2 rfl) (R.keep ow2 trivial) rfl rfl rfl rfl rfl rfl rfl rfl, fun a w R => (e_neq_R (R.val 3) (R.val 4) (fun w => (eq_Ratio hxp han hxq had w).trans (by rw [HXA.out t1_.out t11_.out]))), fun a w R => pickt (R.val 2) (R.val 5), fun a w R => mv (R.val 6), fun a w R => mv (R.slot 10 rfl), fun a w R => c_neq_tk (R.val 8) (Tryd.underlying27) (by rw [t11_.out]; rfl), fun a w R => mv (R.val 9), fun a w R => True.intro, fun a w R => True.intro, fun a w R => pickf (R.val 10) (R.goneS 12), fun a w R => pickn (R.val 7) (R.val 13), trivial⟩ (fun act_ W6 I => ?_)
        rw [I.act [(53, .int .i64 gr), (54, .bool true), (55, .bool true), (56, .agg #[.int .u64 (L0 xp), .int .u64 (L1 xp), .int .u64 (L2 xp), .int .u64 (L3 xp), .int .u64 (L0 xq), .int .u64 (L1 xq), .int .u64 (L2 xq), .int .u64 (L3 xq)]), (57, .agg #[.int .u64 (L0 an), .int .u64 (L1 an), .int .u64 (L2 an), .int .u64 (L3 an), .int .u64 (L0 ad), .int .u64 (L1 ad), .int .u64 (L2 ad), .int .u64 (L3 ad)]), (58, .bool false), (59, .bool false), (60, .bool false), (61, .int .i64 gr), (62, .bool false), (63, .bool false), (64, undef), (65, undef), (66, .bool false), (67, .bool false)]
          ⟨I.val 0, I.val 1, I.val 2, I.val 3, I.val 4, I.val 5, I.val 6, I.val 7, I.val 8, I.val 9, I.val 10, I.gone 11, I.gone 12, I.val 13, I.val 14, trivial⟩ rfl]
        have sW6 : W5.heap.size ≤ W6.heap.size := I.below.size
        replace ow2 := I.keep ow2 trivial
        replace ow3 := I.keep ow3 trivial
        replace ow5 := I.keep ow5 trivial
        replace ow7 := I.keep ow7 trivial
        replace ow9 := I.keep ow9 trivial
        have hW6 : Below w.heap.size w W6 := then_ hW5 I.below hW5.size
        clear I
        simp only [List.foldl_cons, List.foldl_nil, List.setIfInBounds_toArray, List.set_cons_zero, List.set_cons_succ]
        go_upto_region 9 with fail
        refine region_memo_f (B := W6.heap.size) (L := .val (.int .i64 fr) :: .val (.bool false) :: []) (by kernel_rfl) (Nat.le_refl _) ((by exact trivial))
          ⟨fun a w R => mv (R.slot 8 rfl), fun a w R => c_eql_tk (R.val 0) (Tryd.underlying27) t2_.out, trivial⟩ (fun act_ W7 I => ?_)
        rw [I.act [(68, .int .i64 fr), (69, .bool false)]
          ⟨I.val 0, I.val 1, trivial⟩ rfl]
        have sW7 : W6.heap.size ≤ W7.heap.size := I.below.size
        replace ow2 := I.keep ow2 trivial
        replace ow3 := I.keep ow3 trivial
        replace ow5 := I.keep ow5 trivial
        replace ow7 := I.keep ow7 trivial
        replace ow9 := I.keep ow9 trivial
        have hW7 : Below w.heap.size w W7 := then_ hW6 I.below hW6.size
        clear I
        simp only [List.foldl_cons, List.foldl_nil, List.setIfInBounds_toArray, List.set_cons_zero, List.set_cons_succ]
        go_upto_region 13 with fail
        refine region_memo_f (B := W7.heap.size) (L := .val (.bool true) :: []) (by kernel_rfl) (Nat.le_refl _) ((by exact trivial))
          ⟨fun a w R => asc, trivial⟩ (fun act_ W8 I => ?_)
        rw [I.act [(4, .bool true)]
          ⟨I.val 0, trivial⟩ rfl]
        have sW8 : W7.heap.size ≤ W8.heap.size := I.below.size
        replace ow2 := I.keep ow2 trivial
        replace ow3 := I.keep ow3 trivial
        replace ow5 := I.keep ow5 trivial
        replace ow7 := I.keep ow7 trivial
        replace ow9 := I.keep ow9 trivial
        have hW8 : Below w.heap.size w W8 := then_ hW7 I.below hW7.size
        clear I
        simp only [List.foldl_cons, List.foldl_nil, List.setIfInBounds_toArray, List.set_cons_zero, List.set_cons_succ]
        clear ow2 ow3 ow5 ow7 ow9
        go_wp2
        try simp only [setCell_drawn]
        refine bodyPost_ret (by first | (simp [results, Tryd.results3, go_sem]; done) | (simp [results, Tryd.results3, go_sem]; rfl)) rfl ⟨?_, hW8⟩
        rfl
      · have t11_ := Lib.hid t11
        clear t11
        rcases Bool.eq_false_or_eq_true ((gr == 3)) with t12 | t12
        · have t12_ := Lib.hid t12
          clear t12
          go_upto_region 7 with fail
          refine region_memo_f (B := W5.heap.size) (L := .val (.int .i64 gr) :: .val (.bool false) :: .val (.bool false) :: .skip :: .skip :: .skip :: .val (.bool false) :: .val (.bool false) :: .val (.int .i64 gr) :: .val (.bool true) :: .val (.bool true) :: .val (.int .i64 gr) :: .val (.bool false) :: .val (.bool false) :: .val (.bool false) :: []) (by kernel_rfl) (Nat.le_refl _) ((by exact trivial))
            ⟨fun a w R => mv (R.slot 10 rfl), fun a w R => c_eql_tk (R.val 0) (Tryd.underlying27) t11_.out, fun a w R => mv (R.val 1), fun a w R => True.intro, fun a w R => True.intro, fun a w R => True.intro, fun a w R => pickf (R.val 2) (R.goneS 5), fun a w R => mv (R.val 6), fun a w R => mv (R.slot 10 rfl), fun a w R => c_neq_tk (R.val 8) (Tryd.underlying27) (by rw [t11_.out]; rfl), fun a w R => mv (R.val 9), fun a w R => mv (R.slot 10 rfl), fun a w R => c_neq_tk (R.val 11) (Tryd.underlying27) (by rw [t12_.out]; rfl), fun a w R => pickt (R.val 10) (R.val 12), fun a w R => pickn (R.val 7) (R.val 13), trivial⟩ (fun act_ W6 I => ?_)
          rw [I.act [(53, .int .i64 gr), (54, .bool false), (55, .bool false), (56, undef), (57, undef), (58, undef), (59, .bool false), (60, .bool false), (61, .int .i64 gr), (62, .bool true), (63, .bool true), (64, .int .i64 gr), (65, .bool false), (66, .bool false), (67, .bool false)]
            ⟨I.val 0, I.val 1, I.val 2, I.gone 3, I.gone 4, I.gone 5, I.val 6, I.val 7, I.val 8, I.val 9, I.val 10, I.val 11, I.val 12, I.val 13, I.val 14, trivial⟩ rfl]
          have sW6 : W5.heap.size ≤ W6.heap.size := I.below.size
          replace ow2 := I.keep ow2 trivial
          replace ow3 := I.keep ow3 trivial
          replace ow5 := I.keep ow5 trivial
          replace ow7 := I.keep ow7 trivial
          replace ow9 := I.keep ow9 trivial
          have hW6 : Below w.heap.size w W6 := then_ hW5 I.below hW5.size
          clear I
          simp only [List.foldl_cons, List.foldl_nil, List.setIfInBounds_toArray, List.set_cons_zero, List.set_cons_succ]
          go_upto_region 9 with fail
          refine region_memo_f (B := W6.heap.size) (L := .val (.int .i64 fr) :: .val (.bool false) :: []) (by kernel_rfl) (Nat.le_refl _) ((by exact trivial))
            ⟨fun a w R => mv (R.slot 8 rfl), fun a w R => c_eql_tk (R.val 0) (Tryd.underlying27) t2_.out, trivial⟩ (fun act_ W7 I => ?_)
          rw [I.act [(68, .int .i64 fr), (69, .bool false)]
            ⟨I.val 0, I.val 1, trivial⟩ rfl]
          have sW7 : W6.heap.size ≤ W7.heap.size := I.below.size
          replace ow2 := I.keep ow2 trivial
          replace ow3 := I.keep ow3 trivial
          replace ow5 := I.keep ow5 trivial
          replace ow7 := I.keep ow7 trivial
          replace ow9 := I.keep ow9 trivial
          have hW7 : Below w.heap.size w W7 := then_ hW6 I.below hW6.size
          clear I
          simp only [List.foldl_cons, List.foldl_nil, List.setIfInBounds_toArray, List.set_cons_zero, List.set_cons_succ]
          go_upto_region 13 with fail
          refine region_memo_f (B := W7.heap.size) (L := .val (.bool true) :: []) (by kernel_rfl) (Nat.le_refl _) ((by exact trivial))
            ⟨fun a w R => asc, trivial⟩ (fun act_ W8 I => ?_)
          rw [I.act [(4, .bool true)]
            ⟨I.val 0, trivial⟩ rfl]
          have sW8 : W7.heap.size ≤ W8.heap.size := I.below.size
          replace ow2 := I.keep ow2 trivial
          replace ow3 := I.keep ow3 trivial
          replace ow5 := I.keep ow5 trivial
          replace ow7 := I.keep ow7 trivial
          replace ow9 := I.keep ow9 trivial
          have hW8 : Below w.heap.size w W8 := then_ hW7 I.below hW7.size
          clear I
          simp only [List.foldl_cons, List.foldl_nil, List.setIfInBounds_toArray, List.set_cons_zero, List.set_cons_succ]
          clear ow2 ow3 ow5 ow7 ow9
          go_wp2
          try simp only [setCell_drawn]
          refine bodyPost_ret (by first | (simp [results, Tryd.results3, go_sem]; done) | (simp [results, Tryd.results3, go_sem]; rfl)) rfl ⟨?_, hW8⟩
          rfl
        · have t12_ := Lib.hid t12
          clear t12
          exact Bool.noConfusion ((HXN.out t1_.out t11_.out).symm.trans t12_.out)
  · have t1_ := Lib.hid t1
    clear t1
    rcases Bool.eq_false_or_eq_true ((fr == 0)) with t13 | t13
    · have t13_ := Lib.hid t13
      clear t13
      go_upto_region 3 with fail
      refine region_memo_f (B := W2.heap.size) (L := .val (.bool true) :: .val (.bool false) :: .val (.bool false) :: .val (.int .i64 er) :: .val (.bool false) :: .val (.bool false) :: .skip :: .skip :: .skip :: .val (.bool false) :: .val (.bool false) :: .val (.bool false) :: .val (.int .i64 fr) :: .val (.bool true) :: .val (.bool true) :: .val (.agg #[.int .u64 (L0 up), .int .u64 (L1 up), .int .u64 (L2 up), .int .u64 (L3 up), .int .u64 (L0 uq), .int .u64 (L1 uq), .int .u64 (L2 uq), .int .u64 (L3 uq)]) :: .val (.bool true) :: .val (.bool false) :: .val (.bool false) :: .val (.bool false) :: []) (by kernel_rfl) (Nat.le_refl _) ((by exact trivial))
        ⟨fun a w R => cl_0 (enter_at Tryd.func9)  (awake4 _ ((hp.keep hW2).keep R.below)), fun a w R => notb (R.val 0), fun a w R => mv (R.val 1), fun a w R => mv (R.slot 6 rfl), fun a w R => c_eql_tk (R.val 3) (Tryd.underlying27) t1_.out, fun a w R => mv (R.val 4), fun a w R => True.intro, fun a w R => True.intro, fun a w R => True.intro, fun a w R => pickf (R.val 5) (R.goneS 8), fun a w R => pickn (R.val 2) (R.val 9), fun a w R => mv (R.val 10), fun a w R => mv (R.slot 8 rfl), fun a w R => c_eql_tk (R.val 12) (Tryd.underlying27) t13_.out, fun a w R => mv (R.val 13), fun a w R => ld_R (R.slot 7 rfl) (R.keep ow7 trivial) rfl rfl rfl rfl rfl rfl rfl rfl, fun a w R => cl_t (enter_at Tryd.func10) (R.val 15) (RP.out t13_.out _), fun a w R => notb (R.val 16), fun a w R => pickt (R.val 14) (R.val 17), fun a w R => pickn (R.val 11) (R.val 18), trivial⟩ (fun act_ W3 I => ?_)
      rw [I.act [(25, .bool true), (26, .bool false), (27, .bool false), (28, .int .i64 er), (29, .bool false), (30, .bool false), (31, undef), (32, undef), (33, undef), (34, .bool false), (35, .bool false), (36, .bool false), (37, .int .i64 fr), (38, .bool true), (39, .bool true), (40, .agg #[.int .u64 (L0 up), .int .u64 (L1 up), .int .u64 (L2 up), .int .u64 (L3 up), .int .u64 (L0 uq), .int .u64 (L1 uq), .int .u64 (L2 uq), .int .u64 (L3 uq)]), (41, .bool true), (42, .bool false), (43, .bool false), (44, .bool false)]
        ⟨I.val 0, I.val 1, I.val 2, I.val 3, I.val 4, I.val 5, I.gone 6, I.gone 7, I.gone 8, I.val 9, I.val 10, I.val 11, I.val 12, I.val 13, I.val 14, I.val 15, I.val 16, I.val 17, I.val 18, I.val 19, trivial⟩ rfl]
      have sW3 : W2.heap.size ≤ W3.heap.size := I.below.size
      replace ow2 := I.keep ow2 trivial
      replace ow3 := I.keep ow3 trivial
      replace ow5 := I.keep ow5 trivial
      replace ow7 := I.keep ow7 trivial
      have hW3 : Below w.heap.size w W3 := then_ hW2 I.below hW2.size
      clear I
      simp only [List.foldl_cons, List.foldl_nil, List.setIfInBounds_toArray, List.set_cons_zero, List.set_cons_succ]
      go_upto_region 5 with fail
      refine region_memo_f (B := W3.heap.size) (L := .val (.int .i64 er) :: .val (.bool false) :: []) (by kernel_rfl) (Nat.le_refl _) ((by exact trivial))
        ⟨fun a w R => mv (R.slot 6 rfl), fun a w R => c_eql_tk (R.val 0) (Tryd.underlying27) t1_.out, trivial⟩ (fun act_ W4 I => ?_)
      rw [I.act [(45, .int .i64 er), (46, .bool false)]
        ⟨I.val 0, I.val 1, trivial⟩ rfl]
      have sW4 : W3.heap.size ≤ W4.heap.size := I.below.size
      replace ow2 := I.keep ow2 trivial
      replace ow3 := I.keep ow3 trivial
      replace ow5 := I.keep ow5 trivial
      replace ow7 := I.keep ow7 trivial
      have hW4 : Below w.heap.size w W4 := then_ hW3 I.below hW3.size
      clear I
      simp only [List.foldl_cons, List.foldl_nil, List.setIfInBounds_toArray, List.set_cons_zero, List.set_cons_succ]
      go_upto_region 9 with fail
      refine region_memo_f (B := W4.heap.size) (L := .val (.int .i64 fr) :: .val (.bool true) :: []) (by kernel_rfl) (Nat.le_refl _) ((by exact trivial))
        ⟨fun a w R => mv (R.slot 8 rfl), fun a w R => c_eql_tk (R.val 0) (Tryd.underlying27) t13_.out, trivial⟩ (fun act_ W5 I => ?_)
      rw [I.act [(68, .int .i64 fr), (69, .bool true)]
        ⟨I.val 0, I.val 1, trivial⟩ rfl]
      have sW5 : W4.heap.size ≤ W5.heap.size := I.below.size
      replace ow2 := I.keep ow2 trivial
      replace ow3 := I.keep ow3 trivial
      replace ow5 := I.keep ow5 trivial
      replace ow7 := I.keep ow7 trivial
      have hW5 : Below w.heap.size w W5 := then_ hW4 I.below hW4.size
      clear I
      simp only [List.foldl_cons, List.foldl_nil, List.setIfInBounds_toArray, List.set_cons_zero, List.set_cons_succ]
      go_upto_region 10 with fail
      refine region_memo_f (B := W5.heap.size) (L := .val (.agg #[.int .u64 (L0 up), .int .u64 (L1 up), .int .u64 (L2 up), .int .u64 (L3 up), .int .u64 (L0 uq), .int .u64 (L1 uq), .int .u64 (L2 uq), .int .u64 (L3 uq)]) :: .val (.agg #[.int .u64 (L0 bn), .int .u64 (L1 bn), .int .u64 (L2 bn), .int .u64 (L3 bn), .int .u64 (L0 bd), .int .u64 (L1 bd), .int .u64 (L2 bd), .int .u64 (L3 bd)]) :: .val (.tuple #[.agg #[.int .u64 (L0 yp), .int .u64 (L1 yp), .int .u64 (L2 yp), .int .u64 (L3 yp), .int .u64 (L0 yq), .int .u64 (L1 yq), .int .u64 (L2 yq), .int .u64 (L3 yq)], .int .i64 hr]) :: .val (.tuple #[.agg #[.int .u64 (L0 yp), .int .u64 (L1 yp), .int .u64 (L2 yp), .int .u64 (L3 yp), .int .u64 (L0 yq), .int .u64 (L1 yq), .int .u64 (L2 yq), .int .u64 (L3 yq)], .int .i64 hr]) :: .val (.agg #[.int .u64 (L0 yp), .int .u64 (L1 yp), .int .u64 (L2 yp), .int .u64 (L3 yp), .int .u64 (L0 yq), .int .u64 (L1 yq), .int .u64 (L2 yq), .int .u64 (L3 yq)]) :: .val (.int .i64 hr) :: .blk 26 8 :: .put 11 26 #[.int .u64 (L0 yp), .int .u64 (L1 yp), .int .u64 (L2 yp), .int .u64 (L3 yp), .int .u64 (L0 yq), .int .u64 (L1 yq), .int .u64 (L2 yq), .int .u64 (L3 yq)] :: .val (.int .i64 hr) :: []) (by kernel_rfl) (Nat.le_refl _) ((by exact trivial))
        ⟨fun a w R => ld_R (R.slot 7 rfl) (R.keep ow7 trivial) rfl rfl rfl rfl rfl rfl rfl rfl, fun a w R => ld_R (R.slot 3 rfl) (R.keep ow3 trivial) rfl rfl rfl rfl rfl rfl rfl rfl, fun a w R => cl_tt (enter_at Tryd.func12) (R.val 0) (R.val 1) (DV.out _), fun a w R => mv (R.val 2), fun a w R => ex0 (R.val 3), fun a w R => ex1 (R.val 3), fun a w R => al_R, fun a w R => sb_R (R.dep 6) (R.val 4), fun a w R => asg (R.val 5), trivial⟩ (fun act_ W6 I => ?_)
      obtain ⟨gb11, ew11, lw11, ow11⟩ := I.put 7 rfl rfl
      rw [I.act [(71, .agg #[.int .u64 (L0 up), .int .u64 (L1 up), .int .u64 (L2 up), .int .u64 (L3 up), .int .u64 (L0 uq), .int .u64 (L1 uq), .int .u64 (L2 uq), .int .u64 (L3 uq)]), (72, .agg #[.int .u64 (L0 bn), .int .u64 (L1 bn), .int .u64 (L2 bn), .int .u64 (L3 bn), .int .u64 (L0 bd), .int .u64 (L1 bd), .int .u64 (L2 bd), .int .u64 (L3 bd)]), (73, .tuple #[.agg #[.int .u64 (L0 yp), .int .u64 (L1 yp), .int .u64 (L2 yp), .int .u64 (L3 yp), .int .u64 (L0 yq), .int .u64 (L1 yq), .int .u64 (L2 yq), .int .u64 (L3 yq)], .int .i64 hr]), (70, .tuple #[.agg #[.int .u64 (L0 yp), .int .u64 (L1 yp), .int .u64 (L2 yp), .int .u64 (L3 yp), .int .u64 (L0 yq), .int .u64 (L1 yq), .int .u64 (L2 yq), .int .u64 (L3 yq)], .int .i64 hr]), (74, .agg #[.int .u64 (L0 yp), .int .u64 (L1 yp), .int .u64 (L2 yp), .int .u64 (L3 yp), .int .u64 (L0 yq), .int .u64 (L1 yq), .int .u64 (L2 yq), .int .u64 (L3 yq)]), (75, .int .i64 hr), (11, .pointer (some ⟨gb11, 0, none⟩)), (12, .int .i64 hr)]
        ⟨I.val 0, I.val 1, I.val 2, I.val 3, I.val 4, I.val 5, ew11, I.val 8, trivial⟩ rfl]
      change W5.heap.size ≤ gb11 at lw11
      have sW6 : W5.heap.size ≤ W6.heap.size := I.below.size
      replace ow2 := I.keep ow2 trivial
      replace ow3 := I.keep ow3 trivial
      replace ow5 := I.keep ow5 trivial
      replace ow7 := I.keep ow7 trivial
      have hW6 : Below w.heap.size w W6 := then_ hW5 I.below hW5.size
      clear ew11
      clear I
      simp only [List.foldl_cons, List.foldl_nil, List.setIfInBounds_toArray, List.set_cons_zero, List.set_cons_succ]
      rcases Bool.eq_false_or_eq_true ((hr == 0)) with t14 | t14
      · have t14_ := Lib.hid t14
        clear t14
        go_upto_region 11 with fail
        refine region_memo_f (B := W6.heap.size) (L := .val (.int .i64 hr) :: .val (.bool true) :: .val (.bool true) :: .val (.agg #[.int .u64 (L0 yp), .int .u64 (L1 yp), .int .u64 (L2 yp), .int .u64 (L3 yp), .int .u64 (L0 yq), .int .u64 (L1 yq), .int .u64 (L2 yq), .int .u64 (L3 yq)]) :: .val (.agg #[.int .u64 (L0 an), .int .u64 (L1 an), .int .u64 (L2 an), .int .u64 (L3 an), .int .u64 (L0 ad), .int .u64 (L1 ad), .int .u64 (L2 ad), .int .u64 (L3 ad)]) :: .val (.bool false) :: .val (.bool false) :: .val (.bool false) :: .val (.int .i64 hr) :: .val (.bool false) :: .val (.bool false) :: .skip :: .skip :: .val (.bool false) :: .val (.bool false) :: .skip :: .skip :: .val (.bool false) :: .val (.bool false) :: []) (by kernel_rfl) (Nat.le_refl _) ((by exact trivial))
          ⟨fun a w R => mv (R.slot 12 rfl), fun a w R => c_eql_tk (R.val 0) (Tryd.underlying27) t14_.out, fun a w R => mv (R.val 1), fun a w R => ld_R (R.slot 11 rfl) (R.keep ow11 trivial) rfl rfl rfl rfl rfl rfl rfl rfl, fun a w R => ld_R (R.slot 2 rfl) (R.keep ow2 trivial) rfl rfl rfl rfl rfl rfl rfl rfl, fun a w R => (e_neq_R (R.val 3) (R.val 4) (fun w => (eq_Ratio hyp han hyq had w).trans (by rw [HYA.out t13_.out t14_.out]))), fun a w R => pickt (R.val 2) (R.val 5), fun a w R => mv (R.val 6), fun a w R => mv (R.slot 12 rfl), fun a w R => c_neq_tk (R.val 8) (Tryd.underlying27) (by rw [t14_.out]; rfl), fun a w R => mv (R.val 9), fun a w R => True.intro, fun a w R => True.intro, fun a w R => pickf (R.val 10) (R.goneS 12), fun a w R => mv (R.val 13), fun a w R => True.intro, fun a w R => True.intro, fun a w R => pickf (R.val 14) (R.goneS 16), fun a w R => pickn (R.val 7) (R.val 17), trivial⟩ (fun act_ W7 I => ?_)
        rw [I.act [(76, .int .i64 hr), (77, .bool true), (78, .bool true), (79, .agg #[.int .u64 (L0 yp), .int .u64 (L1 yp), .int .u64 (L2 yp), .int .u64 (L3 yp), .int .u64 (L0 yq), .int .u64 (L1 yq), .int .u64 (L2 yq), .int .u64 (L3 yq)]), (80, .agg #[.int .u64 (L0 an), .int .u64 (L1 an), .int .u64 (L2 an), .int .u64 (L3 an), .int .u64 (L0 ad), .int .u64 (L1 ad), .int .u64 (L2 ad), .int .u64 (L3 ad)]), (81, .bool false), (82, .bool false), (83, .bool false), (84, .int .i64 hr), (85, .bool false), (86, .bool false), (87, undef), (88, undef), (89, .bool false), (90, .bool false), (91, undef), (92, undef), (93, .bool false), (94, .bool false)]
          ⟨I.val 0, I.val 1, I.val 2, I.val 3, I.val 4, I.val 5, I.val 6, I.val 7, I.val 8, I.val 9, I.val 10, I.gone 11, I.gone 12, I.val 13, I.val 14, I.gone 15, I.gone 16, I.val 17, I.val 18, trivial⟩ rfl]
        have sW7 : W6.heap.size ≤ W7.heap.size := I.below.size
        replace ow2 := I.keep ow2 trivial
        replace ow3 := I.keep ow3 trivial
        replace ow5 := I.keep ow5 trivial
        replace ow7 := I.keep ow7 trivial
        replace ow11 := I.keep ow11 trivial
        have hW7 : Below w.heap.size w W7 := then_ hW6 I.below hW6.size
        clear I
        simp only [List.foldl_cons, List.foldl_nil, List.setIfInBounds_toArray, List.set_cons_zero, List.set_cons_succ]
        go_upto_region 13 with fail
        refine region_memo_f (B := W7.heap.size) (L := .val (.bool true) :: []) (by kernel_rfl) (Nat.le_refl _) ((by exact trivial))
          ⟨fun a w R => asc, trivial⟩ (fun act_ W8 I => ?_)
        rw [I.act [(4, .bool true)]
          ⟨I.val 0, trivial⟩ rfl]
        have sW8 : W7.heap.size ≤ W8.heap.size := I.below.size
        replace ow2 := I.keep ow2 trivial
        replace ow3 := I.keep ow3 trivial
        replace ow5 := I.keep ow5 trivial
        replace ow7 := I.keep ow7 trivial
        replace ow11 := I.keep ow11 trivial
        have hW8 : Below w.heap.size w W8 := then_ hW7 I.below hW7.size
        clear I
        simp only [List.foldl_cons, List.foldl_nil, List.setIfInBounds_toArray, List.set_cons_zero, List.set_cons_succ]
        clear ow2 ow3 ow5 ow7 ow11
        go_wp2
        try simp only [setCell_drawn]
        refine bodyPost_ret (by first | (simp [results, Tryd.results3, go_sem]; done) | (simp [results, Tryd.results3, go_sem]; rfl)) rfl ⟨?_, hW8⟩
        rfl
      · have t14_ := Lib.hid t14
        clear t14
        rcases Bool.eq_false_or_eq_true ((hr == 3)) with t15 | t15
        · have t15_ := Lib.hid t15
          clear t15
          go_upto_region 11 with fail
          refine region_memo_f (B := W6.heap.size) (L := .val (.int .i64 hr) :: .val (.bool false) :: .val (.bool false) :: .skip :: .skip :: .skip :: .val (.bool false) :: .val (.bool false) :: .val (.int .i64 hr) :: .val (.bool true) :: .val (.bool true) :: .val (.int .i64 hr) :: .val (.bool false) :: .val (.bool false) :: .val (.bool false) :: .skip :: .skip :: .val (.bool false) :: .val (.bool false) :: []) (by kernel_rfl) (Nat.le_refl _) ((by exact trivial))
            ⟨fun a w R => mv (R.slot 12 rfl), fun a w R => c_eql_tk (R.val 0) (Tryd.underlying27) t14_.out, fun a w R => mv (R.val 1), fun a w R => True.intro, fun a w R => True.intro, fun a w R => True.intro, fun a w R => pickf (R.val 2) (R.goneS 5), fun a w R => mv (R.val 6), fun a w R => mv (R.slot 12 rfl), fun a w R => c_neq_tk (R.val 8) (Tryd.underlying27) (by rw [t14_.out]; rfl), fun a w R => mv (R.val 9), fun a w R => mv (R.slot 12 rfl), fun a w R => c_neq_tk (R.val 11) (Tryd.underlying27) (by rw [t15_.out]; rfl), fun a w R => pickt (R.val 10) (R.val 12), fun a w R => mv (R.val 13), fun a w R => True.intro, fun a w R => True.intro, fun a w R => pickf (R.val 14) (R.goneS 16), fun a w R => pickn (R.val 7) (R.val 17), trivial⟩ (fun act_ W7 I => ?_)
          rw [I.act [(76, .int .i64 hr), (77, .bool false), (78, .bool false), (79, undef), (80, undef), (81, undef), (82, .bool false), (83, .bool false), (84, .int .i64 hr), (85, .bool true), (86, .bool true), (87, .int .i64 hr), (88, .bool false), (89, .bool false), (90, .bool false), (91, undef), (92, undef), (93, .bool false), (94, .bool false)]
            ⟨I.val 0, I.val 1, I.val 2, I.gone 3, I.gone 4, I.gone 5, I.val 6, I.val 7, I.val 8, I.val 9, I.val 10, I.val 11, I.val 12, I.val 13, I.val 14, I.gone 15, I.gone 16, I.val 17, I.val 18, trivial⟩ rfl]
          have sW7 : W6.heap.size ≤ W7.heap.size := I.below.size
          replace ow2 := I.keep ow2 trivial
          replace ow3 := I.keep ow3 trivial
          replace ow5 := I.keep ow5 trivial
          replace ow7 := I.keep ow7 trivial
          replace ow11 := I.keep ow11 trivial
          have hW7 : Below w.heap.size w W7 := then_ hW6 I.below hW6.size
          clear I
          simp only [List.foldl_cons, List.foldl_nil, List.setIfInBounds_toArray, List.set_cons_zero, List.set_cons_succ]
          go_upto_region 13 with fail
          refine region_memo_f (B := W7.heap.size) (L := .val (.bool true) :: []) (by kernel_rfl) (Nat.le_refl _) ((by exact trivial))
            ⟨fun a w R => asc, trivial⟩ (fun act_ W8 I => ?_)
          rw [I.act [(4, .bool true)]
            ⟨I.val 0, trivial⟩ rfl]
          have sW8 : W7.heap.size ≤ W8.heap.size := I.below.size
          replace ow2 := I.keep ow2 trivial
          replace ow3 := I.keep ow3 trivial
          replace ow5 := I.keep ow5 trivial
          replace ow7 := I.keep ow7 trivial
          replace ow11 := I.keep ow11 trivial
          have hW8 : Below w.heap.size w W8 := then_ hW7 I.below hW7.size
          clear I
          simp only [List.foldl_cons, List.foldl_nil, List.setIfInBounds_toArray, List.set_cons_zero, List.set_cons_succ]
          clear ow2 ow3 ow5 ow7 ow11
          go_wp2
          try simp only [setCell_drawn]
          refine bodyPost_ret (by first | (simp [results, Tryd.results3, go_sem]; done) | (simp [results, Tryd.results3, go_sem]; rfl)) rfl ⟨?_, hW8⟩
          rfl
        · have t15_ := Lib.hid t15
          clear t15
          rcases Bool.eq_false_or_eq_true ((hr == 4)) with t16 | t16
          · have t16_ := Lib.hid t16
            clear t16
            go_upto_region 11 with fail
            refine region_memo_f (B := W6.heap.size) (L := .val (.int .i64 hr) :: .val (.bool false) :: .val (.bool false) :: .skip :: .skip :: .skip :: .val (.bool false) :: .val (.bool false) :: .val (.int .i64 hr) :: .val (.bool true) :: .val (.bool true) :: .val (.int .i64 hr) :: .val (.bool true) :: .val (.bool true) :: .val (.bool true) :: .val (.int .i64 hr) :: .val (.bool false) :: .val (.bool false) :: .val (.bool false) :: []) (by kernel_rfl) (Nat.le_refl _) ((by exact trivial))
              ⟨fun a w R => mv (R.slot 12 rfl), fun a w R => c_eql_tk (R.val 0) (Tryd.underlying27) t14_.out, fun a w R => mv (R.val 1), fun a w R => True.intro, fun a w R => True.intro, fun a w R => True.intro, fun a w R => pickf (R.val 2) (R.goneS 5), fun a w R => mv (R.val 6), fun a w R => mv (R.slot 12 rfl), fun a w R => c_neq_tk (R.val 8) (Tryd.underlying27) (by rw [t14_.out]; rfl), fun a w R => mv (R.val 9), fun a w R => mv (R.slot 12 rfl), fun a w R => c_neq_tk (R.val 11) (Tryd.underlying27) (by rw [t15_.out]; rfl), fun a w R => pickt (R.val 10) (R.val 12), fun a w R => mv (R.val 13), fun a w R => mv (R.slot 12 rfl), fun a w R => c_neq_tk (R.val 15) (Tryd.underlying27) (by rw [t16_.out]; rfl), fun a w R => pickt (R.val 14) (R.val 16), fun a w R => pickn (R.val 7) (R.val 17), trivial⟩ (fun act_ W7 I => ?_)
            rw [I.act [(76, .int .i64 hr), (77, .bool false), (78, .bool false), (79, undef), (80, undef), (81, undef), (82, .bool false), (83, .bool false), (84, .int .i64 hr), (85, .bool true), (86, .bool true), (87, .int .i64 hr), (88, .bool true), (89, .bool true), (90, .bool true), (91, .int .i64 hr), (92, .bool false), (93, .bool false), (94, .bool false)]
              ⟨I.val 0, I.val 1, I.val 2, I.gone 3, I.gone 4, I.gone 5, I.val 6, I.val 7, I.val 8, I.val 9, I.val 10, I.val 11, I.val 12, I.val 13, I.val 14, I.val 15, I.val 16, I.val 17, I.val 18, trivial⟩ rfl]
            have sW7 : W6.heap.size ≤ W7.heap.size := I.below.size
            replace ow2 := I.keep ow2 trivial
            replace ow3 := I.keep ow3 trivial
            replace ow5 := I.keep ow5 trivial
            replace ow7 := I.keep ow7 trivial
            replace ow11 := I.keep ow11 trivial
            have hW7 : Below w.heap.size w W7 := then_ hW6 I.below hW6.size
            clear I
            simp only [List.foldl_cons, List.foldl_nil, List.setIfInBounds_toArray, List.set_cons_zero, List.set_cons_succ]
            go_upto_region 13 with fail
            refine region_memo_f (B := W7.heap.size) (L := .val (.bool true) :: []) (by kernel_rfl) (Nat.le_refl _) ((by exact trivial))
              ⟨fun a w R => asc, trivial⟩ (fun act_ W8 I => ?_)
            rw [I.act [(4, .bool true)]
              ⟨I.val 0, trivial⟩ rfl]
            have sW8 : W7.heap.size ≤ W8.heap.size := I.below.size
            replace ow2 := I.keep ow2 trivial
            replace ow3 := I.keep ow3 trivial
            replace ow5 := I.keep ow5 trivial
            replace ow7 := I.keep ow7 trivial
            replace ow11 := I.keep ow11 trivial
            have hW8 : Below w.heap.size w W8 := then_ hW7 I.below hW7.size
            clear I
            simp only [List.foldl_cons, List.foldl_nil, List.setIfInBounds_toArray, List.set_cons_zero, List.set_cons_succ]
            clear ow2 ow3 ow5 ow7 ow11
            go_wp2
            try simp only [setCell_drawn]
            refine bodyPost_ret (by first | (simp [results, Tryd.results3, go_sem]; done) | (simp [results, Tryd.results3, go_sem]; rfl)) rfl ⟨?_, hW8⟩
            rfl
          · have t16_ := Lib.hid t16
            clear t16
            exact Bool.noConfusion ((HYN.out t13_.out t14_.out t15_.out).symm.trans t16_.out)
    · have t13_ := Lib.hid t13
      clear t13
      go_upto_region 3 with fail
      refine region_memo_f (B := W2.heap.size) (L := .val (.bool true) :: .val (.bool false) :: .val (.bool false) :: .val (.int .i64 er) :: .val (.bool false) :: .val (.bool false) :: .skip :: .skip :: .skip :: .val (.bool false) :: .val (.bool false) :: .val (.bool false) :: .val (.int .i64 fr) :: .val (.bool false) :: .val (.bool false) :: .skip :: .skip :: .skip :: .val (.bool false) :: .val (.bool false) :: []) (by kernel_rfl) (Nat.le_refl _) ((by exact trivial))
        ⟨fun a w R => cl_0 (enter_at Tryd.func9)  (awake4 _ ((hp.keep hW2).keep R.below)), fun a w R => notb (R.val 0), fun a w R => mv (R.val 1), fun a w R => mv (R.slot 6 rfl), fun a w R => c_eql_tk (R.val 3) (Tryd.underlying27) t1_.out, fun a w R => mv (R.val 4), fun a w R => True.intro, fun a w R => True.intro, fun a w R => True.intro, fun a w R => pickf (R.val 5) (R.goneS 8), fun a w R => pickn (R.val 2) (R.val 9), fun a w R => mv (R.val 10), fun a w R => mv (R.slot 8 rfl), fun a w R => c_eql_tk (R.val 12) (Tryd.underlying27) t13_.out, fun a w R => mv (R.val 13), fun a w R => True.intro, fun a w R => True.intro, fun a w R => True.intro, fun a w R => pickf (R.val 14) (R.goneS 17), fun a w R => pickn (R.val 11) (R.val 18), trivial⟩ (fun act_ W3 I => ?_)
      rw [I.act [(25, .bool true), (26, .bool false), (27, .bool false), (28, .int .i64 er), (29, .bool false), (30, .bool false), (31, undef), (32, undef), (33, undef), (34, .bool false), (35, .bool false), (36, .bool false), (37, .int .i64 fr), (38, .bool false), (39, .bool false), (40, undef), (41, undef), (42, undef), (43, .bool false), (44, .bool false)]
        ⟨I.val 0, I.val 1, I.val 2, I.val 3, I.val 4, I.val 5, I.gone 6, I.gone 7, I.gone 8, I.val 9, I.val 10, I.val 11, I.val 12, I.val 13, I.val 14, I.gone 15, I.gone 16, I.gone 17, I.val 18, I.val 19, trivial⟩ rfl]
      have sW3 : W2.heap.size ≤ W3.heap.size := I.below.size
      replace ow2 := I.keep ow2 trivial
      replace ow3 := I.keep ow3 trivial
      replace ow5 := I.keep ow5 trivial
      replace ow7 := I.keep ow7 trivial
      have hW3 : Below w.heap.size w W3 := then_ hW2 I.below hW2.size
      clear I
      simp only [List.foldl_cons, List.foldl_nil, List.setIfInBounds_toArray, List.set_cons_zero, List.set_cons_succ]
      go_upto_region 5 with fail
      refine region_memo_f (B := W3.heap.size) (L := .val (.int .i64 er) :: .val (.bool false) :: []) (by kernel_rfl) (Nat.le_refl _) ((by exact trivial))
        ⟨fun a w R => mv (R.slot 6 rfl), fun a w R => c_eql_tk (R.val 0) (Tryd.underlying27) t1_.out, trivial⟩ (fun act_ W4 I => ?_)
      rw [I.act [(45, .int .i64 er), (46, .bool false)]
        ⟨I.val 0, I.val 1, trivial⟩ rfl]
      have sW4 : W3.heap.size ≤ W4.heap.size := I.below.size
      replace ow2 := I.keep ow2 trivial
      replace ow3 := I.keep ow3 trivial
      replace ow5 := I.keep ow5 trivial
      replace ow7 := I.keep ow7 trivial
      have hW4 : Below w.heap.size w W4 := then_ hW3 I.below hW3.size
      clear I
      simp only [List.foldl_cons, List.foldl_nil, List.setIfInBounds_toArray, List.set_cons_zero, List.set_cons_succ]
      go_upto_region 9 with fail
      refine region_memo_f (B := W4.heap.size) (L := .val (.int .i64 fr) :: .val (.bool false) :: []) (by kernel_rfl) (Nat.le_refl _) ((by exact trivial))
        ⟨fun a w R => mv (R.slot 8 rfl), fun a w R => c_eql_tk (R.val 0) (Tryd.underlying27) t13_.out, trivial⟩ (fun act_ W5 I => ?_)
      rw [I.act [(68, .int .i64 fr), (69, .bool false)]
        ⟨I.val 0, I.val 1, trivial⟩ rfl]
      have sW5 : W4.heap.size ≤ W5.heap.size := I.below.size
      replace ow2 := I.keep ow2 trivial
      replace ow3 := I.keep ow3 trivial
      replace ow5 := I.keep ow5 trivial
      replace ow7 := I.keep ow7 trivial
      have hW5 : Below w.heap.size w W5 := then_ hW4 I.below hW4.size
      clear I
      simp only [List.foldl_cons, List.foldl_nil, List.setIfInBounds_toArray, List.set_cons_zero, List.set_cons_succ]
      go_upto_region 13 with fail
      refine region_memo_f (B := W5.heap.size) (L := .val (.bool true) :: []) (by kernel_rfl) (Nat.le_refl _) ((by exact trivial))
        ⟨fun a w R => asc, trivial⟩ (fun act_ W6 I => ?_)
      rw [I.act [(4, .bool true)]
        ⟨I.val 0, trivial⟩ rfl]
      have sW6 : W5.heap.size ≤ W6.heap.size := I.below.size
      replace ow2 := I.keep ow2 trivial
      replace ow3 := I.keep ow3 trivial
      replace ow5 := I.keep ow5 trivial
      replace ow7 := I.keep ow7 trivial
      have hW6 : Below w.heap.size w W6 := then_ hW5 I.below hW5.size
      clear I
      simp only [List.foldl_cons, List.foldl_nil, List.setIfInBounds_toArray, List.set_cons_zero, List.set_cons_succ]
      clear ow2 ow3 ow5 ow7
      go_wp2
      try simp only [setCell_drawn]
      refine bodyPost_ret (by first | (simp [results, Tryd.results3, go_sem]; done) | (simp [results, Tryd.results3, go_sem]; rfl)) rfl ⟨?_, hW6⟩
      rfl

set_option maxRecDepth 100000 in
theorem lifted (os : Os) (started : os.Started) (H : Type) (enc : TypeId × Value → H) :
    ReturnsInHanded {} Tryd.checked os 3 .any (fun w args => (Rows.ratioBackSpec.pre enc Tryd.prog Tryd.f3 [] false w args ∧ laidMetH Tryd.prog lay3 w) ∧ sizedMet enc Tryd.prog Tryd.f3 (OpenSpec.ofChange Rows.ratioBackSpec) false w args) (Rows.ratioBackSpec.post enc Tryd.prog Tryd.f3 false true false false) := by
  refine returnsInHanded_of_change_and (C := Tryd.checked) (X := fun w _ => laidMetH Tryd.prog lay3 w) (fun _ _ _ hh h => h.of_heap hh) own started (by kernel_rfl) Tryd.func3
    (ChangeSpec.witness_shaped (enc := enc) (C := Tryd.checked) (os := os) (X := fun w _ => laidMetH Tryd.prog lay3 w) false (World.doorLaid Tryd.prog 400 os) #[.agg #[.int .u64 0, .int .u64 0, .int .u64 0, .int .u64 0, .int .u64 0, .int .u64 0, .int .u64 0, .int .u64 0], .agg #[.int .u64 0, .int .u64 0, .int .u64 0, .int .u64 0, .int .u64 0, .int .u64 0, .int .u64 0, .int .u64 0]] 8 rfl (World.shaped_of_RefB (by kernel_rfl) (by kernel_rfl)) (by kernel_rfl) (by kernel_rfl) (by kernel_rfl) (door_met os _)) ?_
  intro W base args ds gs before hval0 hW _ _ hL _
  have hval : ∀ (j : Nat) t v, Tryd.f3.params[j]? = some t → args[j]? = some v → Value.okWide Tryd.prog W .any base t v := hval0
  have hW' := hW
  obtain ⟨p, q, hA0, hV, rfl, hfz, hnd⟩ := hW
  have hA : DataW.TrodAll enc Tryd.prog W 0 (fun _ => true) true Tryd.f3.params.toList args.toList ds p := hA0
  rw [Tryd.params3] at hA hval
  obtain ⟨v0, vs0, d0, ds0, p0, q0, hargs, rfl, rfl, h0, r0⟩ := trodAll_cons hA
  obtain ⟨v1, vs1, d1, ds1, p1, q1, rfl, rfl, rfl, h1, r1⟩ := trodAll_cons r0
  obtain ⟨rfl, rfl, rfl⟩ := trodAll_nil r1
  obtain rfl : args = #[v0, v1] := by cases args; simp_all
  obtain ⟨rfl, rfl⟩ := trodVars_none hV
  have k0 := h0
  obtain ⟨an, ad, rfl, rfl, han, had⟩ := open_rat (hval 0 26 v0 rfl rfl) h0
  have k1 := h1
  obtain ⟨bn, bd, rfl, rfl, hbn, hbd⟩ := open_rat (hval 1 26 v1 rfl rfl) h1
  clear hA0 hval0
  refine (walk an ad bn bd W han had hbn hbd (pow_of hL)).mono fun e W' ⟨he, bel⟩ => ?_
  subst he
  exact ⟨_, rfl, _, _, _, [], _, [], hW', trodAll_mk1 (shut_bool Tryd.underlying4 _), (trodAll_cons_mk (Below.trod laidOut (by kernel_rfl) (of_decide_eq_true (by kernel_rfl)) k0 bel (fun x hx => by cases hx)) (trodAll_cons_mk (Below.trod laidOut (by kernel_rfl) (of_decide_eq_true (by kernel_rfl)) k1 bel (fun x hx => by cases hx)) trodAll_mk0)), rfl, bel.frame _, fun h => by cases h⟩

theorem over : Rows.RatioBackSaid :=
  OpenClaim.holds_of_wide 3 Tryd.f3 rfl rfl rfl rfl rfl rfl rfl ⟨rfl, rfl, rfl, rfl, rfl⟩ rfl rfl rfl rfl rfl (by kernel_rfl) Tryd.func3 (by kernel_rfl)
    (of_decide_eq_true (by kernel_rfl)) (by unfold Func.isWrapper; first | (rw [if_pos (by decide +kernel)]; kernel_rfl) | (rw [if_neg (by decide +kernel)]; exact ⟨rfl, rfl⟩))
    (fun os started H enc _ => lifted os started H enc)

/-- THE STATEMENT -/
theorem proved : Rows.RatioBackCardSaid :=
  Claim7.holds_tied_plain_at .later [] [.data, .data, .data] true (true, "6a980af68157d7e3f748b080f3544bf2541039e08d899a7652377030828213c3") false
    over (fun _ h => by cases h) (by kernel_rfl) (fun _ h => by cases h) ratioBack_row_tie rfl ⟨rfl, rfl⟩ (by kernel_rfl) rfl
    (fun f fn hf hfn => by
      obtain rfl : f = 3 := Option.some.inj ((show Tryd.prog.funcNamed "croft/croftlaw04.RatioBack" = some 3 by kernel_rfl).symm.trans hf) |>.symm
      obtain rfl : fn = Tryd.f3 := (Option.some.inj (Tryd.func3.symm.trans hfn)).symm
      exact ⟨by kernel_rfl, fun j t ht => by
        rw [Tryd.params3] at ht
        have hm : t ∈ [26, 26] := by simpa using Array.mem_of_getElem? ht
        have hall : ([26, 26].all fun u => !Tryd.prog.wantsStandIn u) = true := by kernel_rfl
        exact (show Tryd.prog.wantsStandIn t = false by simpa using List.all_eq_true.1 hall t hm)⟩)
    (by kernel_rfl)
#print axioms proved
end Go.Proofs.YtigcbgehnlilaaaDoor.ratioBack
