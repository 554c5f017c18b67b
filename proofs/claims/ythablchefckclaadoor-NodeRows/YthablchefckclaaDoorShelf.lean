/-
  The library's strings.Fields at this program, laid by the shelf's own tool in its plain mode.
-/
import Derived.Shelf.Strings.Fields
import Derived.Test.YthablchefckclaaDoorProg
namespace Go.Proofs
open Go.Shelf
def Tryd.lays157_ren : Go.Shelf.Ren := ⟨fun | 157 => 27 | 229 => 44 | 199 => 45 | 261 => 69 | 311 => 74 | 312 => 75 | n => n, fun | 9 => 9 | 31 => 25 | 3 => 3 | 5 => 5 | 4 => 4 | 119 => 128 | 0 => 0 | 40 => 130 | 152 => 179 | 21 => 21 | 154 => 181 | 51 => 182 | 141 => 184 | 196 => 189 | 193 => 186 | 198 => 192 | 49 => 190 | 194 => 187 | 201 => 195 | 226 => 199 | 46 => 200 | 227 => 201 | n => n, fun | 0 => 0 | 6 => 1 | n => n⟩
theorem Tryd.lays157 : Go.Proofs.Lays.n157 Tryd.prog Tryd.lays157_ren := {
  mixed := by kernel_rfl
  f157 := Tryd.func27.trans (congrArg some (by kernel_rfl))
  f199 := Tryd.func45.trans (congrArg some (by kernel_rfl))
  f229 := Tryd.func44.trans (congrArg some (by kernel_rfl))
  f261 := Tryd.func69.trans (congrArg some (by kernel_rfl))
  f311 := Tryd.func74.trans (congrArg some (by kernel_rfl))
  f312 := Tryd.func75.trans (congrArg some (by kernel_rfl))
  t0 := Tryd.underlying0
  a0 := Tryd.isAgg0
  z0 := Tryd.sizeOf0
  v0 := Tryd.zeroValue0
  t3 := Tryd.underlying3
  a3 := Tryd.isAgg3
  z3 := Tryd.sizeOf3
  v3 := Tryd.zeroValue3
  t4 := Tryd.underlying4
  a4 := Tryd.isAgg4
  z4 := Tryd.sizeOf4
  v4 := Tryd.zeroValue4
  t5 := Tryd.underlying5
  a5 := Tryd.isAgg5
  z5 := Tryd.sizeOf5
  v5 := Tryd.zeroValue5
  t9 := Tryd.underlying9
  a9 := Tryd.isAgg9
  z9 := Tryd.sizeOf9
  v9 := Tryd.zeroValue9
  t21 := Tryd.underlying21
  a21 := Tryd.isAgg21
  z21 := Tryd.sizeOf21
  v21 := Tryd.zeroValue21
  t31 := Tryd.underlying25
  a31 := Tryd.isAgg25
  z31 := Tryd.sizeOf25
  v31 := Tryd.zeroValue25
  t40 := Tryd.underlying130
  a40 := Tryd.isAgg130
  z40 := Tryd.sizeOf130
  v40 := Tryd.zeroValue130
  t46 := Tryd.underlying200
  a46 := Tryd.isAgg200
  z46 := Tryd.sizeOf200
  v46 := Tryd.zeroValue200
  t49 := Tryd.underlying190
  a49 := Tryd.isAgg190
  z49 := Tryd.sizeOf190
  v49 := Tryd.zeroValue190
  t51 := Tryd.underlying182
  a51 := Tryd.isAgg182
  z51 := Tryd.sizeOf182
  v51 := Tryd.zeroValue182
  t119 := Tryd.underlying128
  a119 := Tryd.isAgg128
  z119 := Tryd.sizeOf128
  t141 := Tryd.underlying184
  a141 := Tryd.isAgg184
  z141 := Tryd.sizeOf184
  v141 := Tryd.zeroValue184
  t152 := Tryd.underlying179
  a152 := Tryd.isAgg179
  z152 := Tryd.sizeOf179
  v152 := Tryd.zeroValue179
  t154 := Tryd.underlying181
  a154 := Tryd.isAgg181
  z154 := Tryd.sizeOf181
  v154 := Tryd.zeroValue181
  t193 := Tryd.underlying186
  a193 := Tryd.isAgg186
  z193 := Tryd.sizeOf186
  v193 := Tryd.zeroValue186
  t194 := Tryd.underlying187
  a194 := Tryd.isAgg187
  z194 := Tryd.sizeOf187
  v194 := Tryd.zeroValue187
  t196 := Tryd.underlying189
  a196 := Tryd.isAgg189
  z196 := Tryd.sizeOf189
  v196 := Tryd.zeroValue189
  t198 := Tryd.underlying192
  a198 := Tryd.isAgg192
  z198 := Tryd.sizeOf192
  v198 := Tryd.zeroValue192
  t201 := Tryd.underlying195
  a201 := Tryd.isAgg195
  z201 := Tryd.sizeOf195
  v201 := Tryd.zeroValue195
  t226 := Tryd.underlying199
  a226 := Tryd.isAgg199
  z226 := Tryd.sizeOf199
  v226 := Tryd.zeroValue199
  t227 := Tryd.underlying201
  a227 := Tryd.isAgg201
  z227 := Tryd.sizeOf201
  v227 := Tryd.zeroValue201
  g0 := by kernel_rfl
  g6 := by kernel_rfl }
open Go.RowKit Go.Lib in
theorem Tryd.strings_Fields (s : ByteArray) (w : World) (hs : s.size < 4294967281) (hascii : ∀ (j : Nat) b, s.data.toList[j]? = some b → b.toNat < 128) (htab : Lib.TabIs Tryd.prog w "strings.asciiSpace" .u8 Lib.asciiSpaceTab) :
    Calls Tryd.prog 27 #[.string s] w fun e w' =>
      e = .returned (.slice (some ⟨w.heap.size, 0, none⟩) (Lib.fields s.data.toList).length (Lib.fields s.data.toList).length) ∧ w' = w.alloc (.cells ((Lib.fields s.data.toList).map fun l => Value.string ⟨l.toArray⟩).toArray 9) := Any.strings_Fields Tryd.lays157 (by kernel_rfl) (by kernel_rfl) s w hs hascii htab
end Go.Proofs
