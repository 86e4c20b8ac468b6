import Derived.Shelf.SlGeneric
import Derived.Shelf.SlSortCmp.WholeK
import Derived.Ground.SlsfProg
import Derived.Test.YtndhmidgnpobjaaGreatDoorProg
set_option linter.unusedVariables false
set_option linter.unusedSimpArgs false
namespace Go.Proofs
open Go.Shelf
def Tryz.sortSh_ren : Go.Shelf.Ren := ⟨fun | 6 => 203 | 15 => 199 | 14 => 245 | 28 => 240 | 29 => 241 | 20 => 269 | 21 => 270 | 22 => 271 | 23 => 272 | 24 => 273 | 25 => 274 | 26 => 275 | 27 => 276 | 46 => 285 | 47 => 259 | 48 => 260 | 49 => 286 | 50 => 287 | 57 => 293 | n => n, fun | 22 => 141 | 24 => 112 | 25 => 273 | 3 => 3 | 39 => 53 | 0 => 0 | 53 => 249 | 55 => 35 | 4 => 4 | 46 => 298 | 45 => 297 | 50 => 168 | 5 => 5 | 9 => 9 | 66 => 318 | 70 => 321 | 76 => 335 | 77 => 58 | n => n, fun | n => n⟩
theorem Tryz.sortSh : Go.Proofs.SlLaysF0.n6 Tryz.prog Tryz.sortSh_ren := {
 mixed := by kernel_rfl
 f6 := ⟨Tryz.f203.name, by decide, Tryz.func203.trans (congrArg some (by kernel_rfl))⟩
 f14 := ⟨Tryz.f245.name, by decide, Tryz.func245.trans (congrArg some (by kernel_rfl))⟩
 f15 := Tryz.func199.trans (congrArg some (by kernel_rfl))
 f20 := ⟨Tryz.f269.name, by decide, Tryz.func269.trans (congrArg some (by kernel_rfl))⟩
 f21 := ⟨Tryz.f270.name, by decide, Tryz.func270.trans (congrArg some (by kernel_rfl))⟩
 f22 := ⟨Tryz.f271.name, by decide, Tryz.func271.trans (congrArg some (by kernel_rfl))⟩
 f23 := ⟨Tryz.f272.name, by decide, Tryz.func272.trans (congrArg some (by kernel_rfl))⟩
 f24 := ⟨Tryz.f273.name, by decide, Tryz.func273.trans (congrArg some (by kernel_rfl))⟩
 f25 := ⟨Tryz.f274.name, by decide, Tryz.func274.trans (congrArg some (by kernel_rfl))⟩
 f26 := ⟨Tryz.f275.name, by decide, Tryz.func275.trans (congrArg some (by kernel_rfl))⟩
 f27 := ⟨Tryz.f276.name, by decide, Tryz.func276.trans (congrArg some (by kernel_rfl))⟩
 f28 := Tryz.func240.trans (congrArg some (by kernel_rfl))
 f29 := Tryz.func241.trans (congrArg some (by kernel_rfl))
 f46 := ⟨Tryz.f285.name, by decide, Tryz.func285.trans (congrArg some (by kernel_rfl))⟩
 f47 := Tryz.func259.trans (congrArg some (by kernel_rfl))
 f48 := Tryz.func260.trans (congrArg some (by kernel_rfl))
 f49 := ⟨Tryz.f286.name, by decide, Tryz.func286.trans (congrArg some (by kernel_rfl))⟩
 f50 := ⟨Tryz.f287.name, by decide, Tryz.func287.trans (congrArg some (by kernel_rfl))⟩
 f57 := ⟨Tryz.f293.name, by decide, Tryz.func293.trans (congrArg some (by kernel_rfl))⟩
 t0 := Tryz.underlying0
 a0 := Tryz.isAgg0
 z0 := Tryz.sizeOf0
 v0 := Tryz.zeroValue0
 t3 := Tryz.underlying3
 a3 := Tryz.isAgg3
 z3 := Tryz.sizeOf3
 v3 := Tryz.zeroValue3
 t4 := Tryz.underlying4
 a4 := Tryz.isAgg4
 z4 := Tryz.sizeOf4
 v4 := Tryz.zeroValue4
 t5 := Tryz.underlying5
 a5 := Tryz.isAgg5
 z5 := Tryz.sizeOf5
 v5 := Tryz.zeroValue5
 t9 := Tryz.underlying9
 a9 := Tryz.isAgg9
 z9 := Tryz.sizeOf9
 v9 := Tryz.zeroValue9
 t22 := Tryz.underlying141
 a22 := Tryz.isAgg141
 z22 := Tryz.sizeOf141
 v22 := Tryz.zeroValue141
 t25 := Tryz.underlying273
 a25 := Tryz.isAgg273
 z25 := Tryz.sizeOf273
 v25 := Tryz.zeroValue273
 t39 := Tryz.underlying53
 a39 := Tryz.isAgg53
 z39 := Tryz.sizeOf53
 v39 := Tryz.zeroValue53
 t45 := Tryz.underlying297
 a45 := Tryz.isAgg297
 z45 := Tryz.sizeOf297
 v45 := Tryz.zeroValue297
 t46 := Tryz.underlying298
 a46 := Tryz.isAgg298
 z46 := Tryz.sizeOf298
 v46 := Tryz.zeroValue298
 t50 := Tryz.underlying168
 a50 := Tryz.isAgg168
 z50 := Tryz.sizeOf168
 v50 := Tryz.zeroValue168
 t53 := Tryz.underlying249
 a53 := Tryz.isAgg249
 z53 := Tryz.sizeOf249
 v53 := Tryz.zeroValue249
 t55 := Tryz.underlying35
 a55 := Tryz.isAgg35
 z55 := Tryz.sizeOf35
 v55 := Tryz.zeroValue35
 t66 := Tryz.underlying318
 a66 := Tryz.isAgg318
 z66 := Tryz.sizeOf318
 v66 := Tryz.zeroValue318
 t70 := Tryz.underlying321
 a70 := Tryz.isAgg321
 z70 := Tryz.sizeOf321
 v70 := Tryz.zeroValue321
 t76 := Tryz.underlying335
 a76 := Tryz.isAgg335
 z76 := Tryz.sizeOf335
 v76 := Tryz.zeroValue335
 t77 := Tryz.underlying58
 a77 := Tryz.isAgg58
 z77 := Tryz.sizeOf58
 v77 := Tryz.zeroValue58 }
end Go.Proofs
