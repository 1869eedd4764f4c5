/- The library functions that the program calls, each by its contract of the kit, at this translation. Of every argument under the bounds that each names. -/
import Derived.Shelf.Strings.Builder1
import Derived.Shelf.Strings.Builder2
import Derived.Shelf.Strings.OnBuilder
import Derived.Shelf.Small.Bits
import Derived.Shelf.Small.Strs
import Derived.Shelf.Strconv.Itoa0
import Derived.Shelf.Strconv.Itoa1
import Derived.Shelf.LaysM
import Derived.Shelf.Strconv.Itoa2
import Derived.Shelf.Strconv.Itoa3
import Derived.Shelf.Strings.Search1
import Derived.Ground.GgsProg
import Derived.Shelf.GgSortFunc.Insertion
import Derived.Shelf.GgSortFunc.Tiny
import Derived.Shelf.GgSortFunc.Compose
import Derived.Ground.GgtProg
import Derived.Shelf.GgSortMore.Stable
import Derived.Test.YtiecbagejdcafaaGreatDoorProg
namespace Go.Proofs
open Go.Shelf
def Tryz.laysGg26_ren : Go.Shelf.Ren := ⟨fun | 26 => 154 | n => n, fun | 44 => 174 | 3 => 3 | 0 => 0 | 4 => 4 | 26 => 129 | 37 => 170 | n => n, fun | n => n⟩
theorem Tryz.laysGg26 : Go.Proofs.LaysGg.n26 Tryz.prog Tryz.laysGg26_ren := {
  mixed := by kernel_rfl
  f26 := Tryz.func154.trans (congrArg some (by kernel_rfl))
  t0 := Tryz.underlying0
  a0 := Tryz.isAgg0
  z0 := Tryz.sizeOf0
  v0 := Tryz.zeroValue0
  i0 := by kernel_rfl
  t3 := Tryz.underlying3
  a3 := Tryz.isAgg3
  z3 := Tryz.sizeOf3
  v3 := Tryz.zeroValue3
  i3 := by kernel_rfl
  t4 := Tryz.underlying4
  a4 := Tryz.isAgg4
  z4 := Tryz.sizeOf4
  v4 := Tryz.zeroValue4
  i4 := by kernel_rfl
  t26 := Tryz.underlying129
  a26 := Tryz.isAgg129
  z26 := Tryz.sizeOf129
  v26 := Tryz.zeroValue129
  i26 := by kernel_rfl
  t37 := Tryz.underlying170
  a37 := Tryz.isAgg170
  z37 := Tryz.sizeOf170
  v37 := Tryz.zeroValue170
  i37 := by kernel_rfl
  t44 := Tryz.underlying174
  a44 := Tryz.isAgg174
  z44 := Tryz.sizeOf174
  v44 := Tryz.zeroValue174
  i44 := by kernel_rfl }
open Go.RowKit Go.Lib Go.Sort in
theorem Tryz.insertionSort_func_w {α : Type} [Inhabited α] (enc : α → Value) (lt : α → α → Bool) (g : Nat) (lb : Array Value) (sf : Nat) (sb : Array Value) (blk off a b : Nat) (d : Array α) (w : World) (eg : ∀ args w, (callFunc g args).run Tryz.prog w = .ok (.enter g args) w) (hless : LessReads Tryz.prog g lb enc lt blk off d.size w) (hswap : SwapSwaps Tryz.prog sf sb enc blk off d.size) (hH : Holds enc w blk off d) (hblk : blk < w.heap.size) (hab : a ≤ b) (hb : b ≤ d.size) (hsz : d.size < 4611686018427387904) :
    Calls Tryz.prog 154 #[.agg #[.func (.func g) #[] lb, .func (.func sf) #[] sb], .int .i64 a, .int .i64 b] w fun e w' => e = .returned (.tuple #[]) ∧ ∃ n os, w' = sortWorld enc w blk off n (Sort.insertionSort lt d a b) os := Any.insertionSort_func_w Tryz.laysGg26 enc lt g lb sf sb blk off a b d w eg hless hswap hH hblk hab hb hsz
def Tryz.laysGt8_ren : Go.Shelf.Ren := ⟨fun | 8 => 87 | 13 => 110 | 14 => 111 | 16 => 113 | 15 => 112 | 29 => 154 | 30 => 155 | 42 => 173 | 49 => 180 | n => n, fun | 20 => 20 | 26 => 129 | 36 => 168 | 0 => 0 | 38 => 170 | 42 => 174 | 3 => 3 | 4 => 4 | 47 => 121 | 17 => 17 | 33 => 165 | 34 => 166 | 89 => 248 | 12 => 12 | 56 => 180 | 82 => 242 | 5 => 5 | 83 => 243 | 84 => 244 | 85 => 146 | 86 => 245 | 87 => 246 | n => n, fun | n => n⟩
theorem Tryz.laysGt8 : Go.Proofs.LaysGt.n8 Tryz.prog Tryz.laysGt8_ren := {
  mixed := by kernel_rfl
  f8 := Tryz.func87.trans (congrArg some (by kernel_rfl))
  f13 := Tryz.func110.trans (congrArg some (by kernel_rfl))
  f14 := Tryz.func111.trans (congrArg some (by kernel_rfl))
  f15 := Tryz.func112.trans (congrArg some (by kernel_rfl))
  f16 := Tryz.func113.trans (congrArg some (by kernel_rfl))
  f29 := Tryz.func154.trans (congrArg some (by kernel_rfl))
  f30 := Tryz.func155.trans (congrArg some (by kernel_rfl))
  f42 := Tryz.func173.trans (congrArg some (by kernel_rfl))
  f49 := Tryz.func180.trans (congrArg some (by kernel_rfl))
  t0 := Tryz.underlying0
  a0 := Tryz.isAgg0
  z0 := Tryz.sizeOf0
  v0 := Tryz.zeroValue0
  i0 := by kernel_rfl
  t3 := Tryz.underlying3
  a3 := Tryz.isAgg3
  z3 := Tryz.sizeOf3
  v3 := Tryz.zeroValue3
  i3 := by kernel_rfl
  t4 := Tryz.underlying4
  a4 := Tryz.isAgg4
  z4 := Tryz.sizeOf4
  v4 := Tryz.zeroValue4
  i4 := by kernel_rfl
  t5 := Tryz.underlying5
  a5 := Tryz.isAgg5
  z5 := Tryz.sizeOf5
  v5 := Tryz.zeroValue5
  i5 := by kernel_rfl
  t12 := Tryz.underlying12
  a12 := Tryz.isAgg12
  z12 := Tryz.sizeOf12
  v12 := Tryz.zeroValue12
  i12 := by kernel_rfl
  t17 := Tryz.underlying17
  a17 := Tryz.isAgg17
  z17 := Tryz.sizeOf17
  v17 := Tryz.zeroValue17
  i17 := by kernel_rfl
  t20 := Tryz.underlying20
  a20 := Tryz.isAgg20
  z20 := Tryz.sizeOf20
  v20 := Tryz.zeroValue20
  i20 := by kernel_rfl
  t26 := Tryz.underlying129
  a26 := Tryz.isAgg129
  z26 := Tryz.sizeOf129
  v26 := Tryz.zeroValue129
  i26 := by kernel_rfl
  t33 := Tryz.underlying165
  a33 := Tryz.isAgg165
  z33 := Tryz.sizeOf165
  v33 := Tryz.zeroValue165
  i33 := by kernel_rfl
  t34 := Tryz.underlying166
  a34 := Tryz.isAgg166
  z34 := Tryz.sizeOf166
  v34 := Tryz.zeroValue166
  i34 := by kernel_rfl
  t36 := Tryz.underlying168
  a36 := Tryz.isAgg168
  z36 := Tryz.sizeOf168
  v36 := Tryz.zeroValue168
  i36 := by kernel_rfl
  t38 := Tryz.underlying170
  a38 := Tryz.isAgg170
  z38 := Tryz.sizeOf170
  v38 := Tryz.zeroValue170
  i38 := by kernel_rfl
  t42 := Tryz.underlying174
  a42 := Tryz.isAgg174
  z42 := Tryz.sizeOf174
  v42 := Tryz.zeroValue174
  i42 := by kernel_rfl
  t47 := Tryz.underlying121
  a47 := Tryz.isAgg121
  z47 := Tryz.sizeOf121
  v47 := Tryz.zeroValue121
  i47 := by kernel_rfl
  t56 := Tryz.underlying180
  a56 := Tryz.isAgg180
  z56 := Tryz.sizeOf180
  v56 := Tryz.zeroValue180
  i56 := by kernel_rfl
  t82 := Tryz.underlying242
  a82 := Tryz.isAgg242
  z82 := Tryz.sizeOf242
  v82 := Tryz.zeroValue242
  i82 := by kernel_rfl
  t83 := Tryz.underlying243
  a83 := Tryz.isAgg243
  z83 := Tryz.sizeOf243
  v83 := Tryz.zeroValue243
  i83 := by kernel_rfl
  t84 := Tryz.underlying244
  a84 := Tryz.isAgg244
  z84 := Tryz.sizeOf244
  v84 := Tryz.zeroValue244
  i84 := by kernel_rfl
  t85 := Tryz.underlying146
  a85 := Tryz.isAgg146
  z85 := Tryz.sizeOf146
  v85 := Tryz.zeroValue146
  i85 := by kernel_rfl
  t86 := Tryz.underlying245
  a86 := Tryz.isAgg245
  z86 := Tryz.sizeOf245
  v86 := Tryz.zeroValue245
  i86 := by kernel_rfl
  t87 := Tryz.underlying246
  a87 := Tryz.isAgg246
  z87 := Tryz.sizeOf246
  v87 := Tryz.zeroValue246
  i87 := by kernel_rfl
  t89 := Tryz.underlying248
  a89 := Tryz.isAgg248
  z89 := Tryz.sizeOf248
  v89 := Tryz.zeroValue248
  i89 := by kernel_rfl }
end Go.Proofs
