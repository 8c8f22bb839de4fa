/-
  DERIVED: THE SHELF's CONTRACTS AT THIS DUMP, IN PLAIN WORDS (tools/lay-plain.mjs out of 'YtdcofbciebkfkaaDoorShelf0.lean', which tools/lay-shelf.mjs wrote): THE SAME DECLARATIONS UNDER THE SAME NAMES: 'import', 'namespace', 'open', 'def', 'theorem' AND NOTHING ELSE: no command of the shelf's: FOR A HAND-IN. Each laying: the table of numbers ('.._ren') and one theorem, a field a fact of the dump's own or the kernel's comparison; each contract: ONE APPLICATION.
-/
import Derived.Ground.NamesProg
import Derived.Shelf.Strings.SlTrimAscii
import Derived.Shelf.Small.Strs
import Derived.Test.YtdcofbciebkfkaaDoorProg
namespace Go.Proofs
open Go.Shelf
def Tryd.lays160_ren : Go.Shelf.Ren := ⟨fun | 160 => 159 | 232 => 172 | 231 => 171 | 227 => 173 | 234 => 175 | 233 => 174 | 236 => 177 | 235 => 176 | 228 => 188 | 271 => 191 | 151 => 190 | 197 => 189 | 120 => 199 | 152 => 198 | 260 => 197 | 137 => 204 | 119 => 205 | 224 => 206 | 225 => 207 | 217 => 209 | 266 => 211 | n => n, fun | 9 => 9 | 4 => 4 | 3 => 3 | 5 => 5 | 117 => 214 | 116 => 213 | 0 => 0 | 124 => 217 | 21 => 21 | 105 => 228 | 46 => 231 | 119 => 233 | 139 => 236 | 138 => 235 | n => n, fun | 3 => 0 | 4 => 1 | n => n⟩
theorem Tryd.lays160 : Go.Proofs.Lays.n160 Tryd.prog Tryd.lays160_ren := {
  mixed := by kernel_rfl
  f119 := Tryd.func205.trans (congrArg some (by kernel_rfl))
  f120 := Tryd.func199.trans (congrArg some (by kernel_rfl))
  f137 := Tryd.func204.trans (congrArg some (by kernel_rfl))
  f151 := Tryd.func190.trans (congrArg some (by kernel_rfl))
  f152 := Tryd.func198.trans (congrArg some (by kernel_rfl))
  f160 := Tryd.func159.trans (congrArg some (by kernel_rfl))
  f197 := Tryd.func189.trans (congrArg some (by kernel_rfl))
  f217 := Tryd.func209.trans (congrArg some (by kernel_rfl))
  f224 := Tryd.func206.trans (congrArg some (by kernel_rfl))
  f225 := Tryd.func207.trans (congrArg some (by kernel_rfl))
  f227 := Tryd.func173.trans (congrArg some (by kernel_rfl))
  f228 := Tryd.func188.trans (congrArg some (by kernel_rfl))
  f231 := Tryd.func171.trans (congrArg some (by kernel_rfl))
  f232 := Tryd.func172.trans (congrArg some (by kernel_rfl))
  f233 := Tryd.func174.trans (congrArg some (by kernel_rfl))
  f234 := Tryd.func175.trans (congrArg some (by kernel_rfl))
  f235 := Tryd.func176.trans (congrArg some (by kernel_rfl))
  f236 := Tryd.func177.trans (congrArg some (by kernel_rfl))
  f260 := Tryd.func197.trans (congrArg some (by kernel_rfl))
  f266 := Tryd.func211.trans (congrArg some (by kernel_rfl))
  f271 := Tryd.func191.trans (congrArg some (by kernel_rfl))
  t0 := Tryd.underlying0
  a0 := Tryd.isAgg0
  z0 := Tryd.sizeOf0
  v0 := Tryd.zeroValue0
  t3 := Tryd.underlying3
  a3 := Tryd.isAgg3
  z3 := Tryd.sizeOf3
  v3 := Tryd.zeroValue3
  t4 := Tryd.underlying4
  a4 := Tryd.isAgg4
  z4 := Tryd.sizeOf4
  v4 := Tryd.zeroValue4
  t5 := Tryd.underlying5
  a5 := Tryd.isAgg5
  z5 := Tryd.sizeOf5
  v5 := Tryd.zeroValue5
  t9 := Tryd.underlying9
  a9 := Tryd.isAgg9
  z9 := Tryd.sizeOf9
  v9 := Tryd.zeroValue9
  t21 := Tryd.underlying21
  a21 := Tryd.isAgg21
  z21 := Tryd.sizeOf21
  v21 := Tryd.zeroValue21
  t46 := Tryd.underlying231
  a46 := Tryd.isAgg231
  z46 := Tryd.sizeOf231
  v46 := Tryd.zeroValue231
  t105 := Tryd.underlying228
  a105 := Tryd.isAgg228
  z105 := Tryd.sizeOf228
  v105 := Tryd.zeroValue228
  t116 := Tryd.underlying213
  a116 := Tryd.isAgg213
  z116 := Tryd.sizeOf213
  t117 := Tryd.underlying214
  a117 := Tryd.isAgg214
  z117 := Tryd.sizeOf214
  v117 := Tryd.zeroValue214
  t119 := Tryd.underlying233
  a119 := Tryd.isAgg233
  z119 := Tryd.sizeOf233
  t124 := Tryd.underlying217
  a124 := Tryd.isAgg217
  z124 := Tryd.sizeOf217
  v124 := Tryd.zeroValue217
  t138 := Tryd.underlying235
  a138 := Tryd.isAgg235
  z138 := Tryd.sizeOf235
  v138 := Tryd.zeroValue235
  t139 := Tryd.underlying236
  a139 := Tryd.isAgg236
  z139 := Tryd.sizeOf236
  v139 := Tryd.zeroValue236
  g3 := by kernel_rfl
  g4 := by kernel_rfl }
def Tryd.lays106_ren : Go.Shelf.Ren := ⟨fun | 106 => 203 | 213 => 208 | 265 => 210 | n => n, fun | 9 => 9 | 3 => 3 | n => n, fun | n => n⟩
theorem Tryd.lays106 : Go.Proofs.Lays.n106 Tryd.prog Tryd.lays106_ren := {
  mixed := by kernel_rfl
  f106 := Tryd.func203.trans (congrArg some (by kernel_rfl))
  f213 := Tryd.func208.trans (congrArg some (by kernel_rfl))
  f265 := Tryd.func210.trans (congrArg some (by kernel_rfl))
  t3 := Tryd.underlying3
  a3 := Tryd.isAgg3
  z3 := Tryd.sizeOf3
  v3 := Tryd.zeroValue3
  t9 := Tryd.underlying9
  a9 := Tryd.isAgg9
  z9 := Tryd.sizeOf9
  v9 := Tryd.zeroValue9 }
end Go.Proofs
