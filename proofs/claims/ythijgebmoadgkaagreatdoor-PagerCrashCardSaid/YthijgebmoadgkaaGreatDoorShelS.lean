import Derived.Shelf.SlGeneric
import Derived.Shelf.SlSortCmp.WholeK
import Derived.Ground.SlsfProg
import Derived.Test.YthijgebmoadgkaaGreatDoorProg
set_option linter.unusedVariables false
set_option linter.unusedSimpArgs false
namespace Go.Proofs
open Go.Shelf
def Tryz.sortSh_ren : Go.Shelf.Ren := ⟨fun | 6 => 248 | 15 => 244 | 14 => 298 | 28 => 293 | 29 => 294 | 20 => 333 | 21 => 334 | 22 => 335 | 23 => 336 | 24 => 337 | 25 => 338 | 26 => 339 | 27 => 340 | 46 => 350 | 47 => 323 | 48 => 324 | 49 => 351 | 50 => 352 | 57 => 358 | n => n, fun | 22 => 160 | 24 => 131 | 25 => 326 | 3 => 3 | 39 => 53 | 0 => 0 | 53 => 303 | 55 => 35 | 4 => 4 | 46 => 362 | 45 => 361 | 50 => 182 | 5 => 5 | 9 => 9 | 66 => 390 | 70 => 393 | 76 => 407 | 77 => 408 | n => n, fun | n => n⟩
theorem Tryz.sortSh : Go.Proofs.SlLaysF0.n6 Tryz.prog Tryz.sortSh_ren := {
 mixed := by kernel_rfl
 f6 := ⟨Tryz.f248.name, by decide, Tryz.func248.trans (congrArg some (by kernel_rfl))⟩
 f14 := ⟨Tryz.f298.name, by decide, Tryz.func298.trans (congrArg some (by kernel_rfl))⟩
 f15 := Tryz.func244.trans (congrArg some (by kernel_rfl))
 f20 := ⟨Tryz.f333.name, by decide, Tryz.func333.trans (congrArg some (by kernel_rfl))⟩
 f21 := ⟨Tryz.f334.name, by decide, Tryz.func334.trans (congrArg some (by kernel_rfl))⟩
 f22 := ⟨Tryz.f335.name, by decide, Tryz.func335.trans (congrArg some (by kernel_rfl))⟩
 f23 := ⟨Tryz.f336.name, by decide, Tryz.func336.trans (congrArg some (by kernel_rfl))⟩
 f24 := ⟨Tryz.f337.name, by decide, Tryz.func337.trans (congrArg some (by kernel_rfl))⟩
 f25 := ⟨Tryz.f338.name, by decide, Tryz.func338.trans (congrArg some (by kernel_rfl))⟩
 f26 := ⟨Tryz.f339.name, by decide, Tryz.func339.trans (congrArg some (by kernel_rfl))⟩
 f27 := ⟨Tryz.f340.name, by decide, Tryz.func340.trans (congrArg some (by kernel_rfl))⟩
 f28 := Tryz.func293.trans (congrArg some (by kernel_rfl))
 f29 := Tryz.func294.trans (congrArg some (by kernel_rfl))
 f46 := ⟨Tryz.f350.name, by decide, Tryz.func350.trans (congrArg some (by kernel_rfl))⟩
 f47 := Tryz.func323.trans (congrArg some (by kernel_rfl))
 f48 := Tryz.func324.trans (congrArg some (by kernel_rfl))
 f49 := ⟨Tryz.f351.name, by decide, Tryz.func351.trans (congrArg some (by kernel_rfl))⟩
 f50 := ⟨Tryz.f352.name, by decide, Tryz.func352.trans (congrArg some (by kernel_rfl))⟩
 f57 := ⟨Tryz.f358.name, by decide, Tryz.func358.trans (congrArg some (by kernel_rfl))⟩
 t0 := Tryz.underlying0
 a0 := Tryz.isAgg0
 z0 := Tryz.sizeOf0
 v0 := Tryz.zeroValue0
 t3 := Tryz.underlying3
 a3 := Tryz.isAgg3
 z3 := Tryz.sizeOf3
 v3 := Tryz.zeroValue3
 t4 := Tryz.underlying4
 a4 := Tryz.isAgg4
 z4 := Tryz.sizeOf4
 v4 := Tryz.zeroValue4
 t5 := Tryz.underlying5
 a5 := Tryz.isAgg5
 z5 := Tryz.sizeOf5
 v5 := Tryz.zeroValue5
 t9 := Tryz.underlying9
 a9 := Tryz.isAgg9
 z9 := Tryz.sizeOf9
 v9 := Tryz.zeroValue9
 t22 := Tryz.underlying160
 a22 := Tryz.isAgg160
 z22 := Tryz.sizeOf160
 v22 := Tryz.zeroValue160
 t25 := Tryz.underlying326
 a25 := Tryz.isAgg326
 z25 := Tryz.sizeOf326
 v25 := Tryz.zeroValue326
 t39 := Tryz.underlying53
 a39 := Tryz.isAgg53
 z39 := Tryz.sizeOf53
 v39 := Tryz.zeroValue53
 t45 := Tryz.underlying361
 a45 := Tryz.isAgg361
 z45 := Tryz.sizeOf361
 v45 := Tryz.zeroValue361
 t46 := Tryz.underlying362
 a46 := Tryz.isAgg362
 z46 := Tryz.sizeOf362
 v46 := Tryz.zeroValue362
 t50 := Tryz.underlying182
 a50 := Tryz.isAgg182
 z50 := Tryz.sizeOf182
 v50 := Tryz.zeroValue182
 t53 := Tryz.underlying303
 a53 := Tryz.isAgg303
 z53 := Tryz.sizeOf303
 v53 := Tryz.zeroValue303
 t55 := Tryz.underlying35
 a55 := Tryz.isAgg35
 z55 := Tryz.sizeOf35
 v55 := Tryz.zeroValue35
 t66 := Tryz.underlying390
 a66 := Tryz.isAgg390
 z66 := Tryz.sizeOf390
 v66 := Tryz.zeroValue390
 t70 := Tryz.underlying393
 a70 := Tryz.isAgg393
 z70 := Tryz.sizeOf393
 v70 := Tryz.zeroValue393
 t76 := Tryz.underlying407
 a76 := Tryz.isAgg407
 z76 := Tryz.sizeOf407
 v76 := Tryz.zeroValue407
 t77 := Tryz.underlying408
 a77 := Tryz.isAgg408
 z77 := Tryz.sizeOf408
 v77 := Tryz.zeroValue408 }
end Go.Proofs
