/- The library's sorts at this program: how its functions and types are numbered. -/
import Derived.Shelf.SortG.Plain
import Derived.Shelf.SortG.SortNone
import Derived.Ground.SlgnProg
import Derived.Test.YtanfbfmpppfbhaaProg
namespace Go.Proofs
open Go.Shelf
def Try.sort40_ren : Go.Shelf.Ren := ⟨fun | 53 => 40 | 64 => 51 | 63 => 50 | 78 => 70 | 79 => 25 | 70 => 61 | 71 => 62 | 72 => 63 | 73 => 64 | 74 => 65 | 75 => 66 | 59 => 67 | 76 => 68 | 77 => 69 | 88 => 85 | 89 => 86 | 90 => 87 | 91 => 88 | 92 => 89 | 68 => 90 | 96 => 98 | n => n, fun | 22 => 30 | 23 => 2 | 3 => 3 | 51 => 87 | 0 => 0 | 67 => 128 | 69 => 63 | 4 => 4 | 61 => 121 | 60 => 120 | 44 => 110 | 5 => 5 | 9 => 9 | 75 => 141 | 79 => 145 | 83 => 149 | 84 => 150 | n => n, fun | n => n⟩
theorem Try.sort40 : Go.Proofs.SlLaysN.n53 Try.prog Try.sort40_ren := {
  mixed := by kernel_rfl
  f53 := ⟨Try.f40.name, by decide, Try.func40.trans (congrArg some (by kernel_rfl))⟩
  f59 := ⟨Try.f67.name, by decide, Try.func67.trans (congrArg some (by kernel_rfl))⟩
  f63 := ⟨Try.f50.name, by decide, Try.func50.trans (congrArg some (by kernel_rfl))⟩
  f64 := Try.func51.trans (congrArg some (by kernel_rfl))
  f68 := ⟨Try.f90.name, by decide, Try.func90.trans (congrArg some (by kernel_rfl))⟩
  f70 := ⟨Try.f61.name, by decide, Try.func61.trans (congrArg some (by kernel_rfl))⟩
  f71 := ⟨Try.f62.name, by decide, Try.func62.trans (congrArg some (by kernel_rfl))⟩
  f72 := ⟨Try.f63.name, by decide, Try.func63.trans (congrArg some (by kernel_rfl))⟩
  f73 := ⟨Try.f64.name, by decide, Try.func64.trans (congrArg some (by kernel_rfl))⟩
  f74 := ⟨Try.f65.name, by decide, Try.func65.trans (congrArg some (by kernel_rfl))⟩
  f75 := ⟨Try.f66.name, by decide, Try.func66.trans (congrArg some (by kernel_rfl))⟩
  f76 := ⟨Try.f68.name, by decide, Try.func68.trans (congrArg some (by kernel_rfl))⟩
  f77 := ⟨Try.f69.name, by decide, Try.func69.trans (congrArg some (by kernel_rfl))⟩
  f78 := Try.func70.trans (congrArg some (by kernel_rfl))
  f79 := Try.func25.trans (congrArg some (by kernel_rfl))
  f88 := ⟨Try.f85.name, by decide, Try.func85.trans (congrArg some (by kernel_rfl))⟩
  f89 := Try.func86.trans (congrArg some (by kernel_rfl))
  f90 := Try.func87.trans (congrArg some (by kernel_rfl))
  f91 := ⟨Try.f88.name, by decide, Try.func88.trans (congrArg some (by kernel_rfl))⟩
  f92 := ⟨Try.f89.name, by decide, Try.func89.trans (congrArg some (by kernel_rfl))⟩
  f96 := ⟨Try.f98.name, by decide, Try.func98.trans (congrArg some (by kernel_rfl))⟩
  t0 := Try.underlying0
  a0 := Try.isAgg0
  z0 := Try.sizeOf0
  v0 := Try.zeroValue0
  t3 := Try.underlying3
  a3 := Try.isAgg3
  z3 := Try.sizeOf3
  v3 := Try.zeroValue3
  t4 := Try.underlying4
  a4 := Try.isAgg4
  z4 := Try.sizeOf4
  v4 := Try.zeroValue4
  t5 := Try.underlying5
  a5 := Try.isAgg5
  z5 := Try.sizeOf5
  v5 := Try.zeroValue5
  t9 := Try.underlying9
  a9 := Try.isAgg9
  z9 := Try.sizeOf9
  v9 := Try.zeroValue9
  t22 := Try.underlying30
  a22 := Try.isAgg30
  z22 := Try.sizeOf30
  v22 := Try.zeroValue30
  t23 := Try.underlying2
  a23 := Try.isAgg2
  z23 := Try.sizeOf2
  v23 := Try.zeroValue2
  t44 := Try.underlying110
  a44 := Try.isAgg110
  z44 := Try.sizeOf110
  v44 := Try.zeroValue110
  t51 := Try.underlying87
  a51 := Try.isAgg87
  z51 := Try.sizeOf87
  v51 := Try.zeroValue87
  t60 := Try.underlying120
  a60 := Try.isAgg120
  z60 := Try.sizeOf120
  v60 := Try.zeroValue120
  t61 := Try.underlying121
  a61 := Try.isAgg121
  z61 := Try.sizeOf121
  v61 := Try.zeroValue121
  t67 := Try.underlying128
  a67 := Try.isAgg128
  z67 := Try.sizeOf128
  v67 := Try.zeroValue128
  t69 := Try.underlying63
  a69 := Try.isAgg63
  z69 := Try.sizeOf63
  v69 := Try.zeroValue63
  t75 := Try.underlying141
  a75 := Try.isAgg141
  z75 := Try.sizeOf141
  v75 := Try.zeroValue141
  t79 := Try.underlying145
  a79 := Try.isAgg145
  z79 := Try.sizeOf145
  v79 := Try.zeroValue145
  t83 := Try.underlying149
  a83 := Try.isAgg149
  z83 := Try.sizeOf149
  v83 := Try.zeroValue149
  t84 := Try.underlying150
  a84 := Try.isAgg150
  z84 := Try.sizeOf150
  v84 := Try.zeroValue150 }


end Go.Proofs
