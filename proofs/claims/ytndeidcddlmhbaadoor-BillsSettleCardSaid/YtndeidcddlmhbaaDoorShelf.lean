/-
  DERIVED: THE SHELF's CONTRACTS AT THIS DUMP, IN PLAIN WORDS (tools/lay-plain.mjs out of 'YtndeidcddlmhbaaDoorShelf0.lean', which tools/lay-shelf.mjs wrote): THE SAME DECLARATIONS UNDER THE SAME NAMES: 'import', 'namespace', 'open', 'def', 'theorem' AND NOTHING ELSE: no command of the shelf's: FOR A HAND-IN. Each laying: the table of numbers ('.._ren') and one theorem, a field a fact of the dump's own or the kernel's comparison; each contract: ONE APPLICATION.
-/
import Derived.Ground.NamesProg
import Derived.Shelf.Strings.SlTrimAscii
import Derived.Shelf.Small.Strs
import Derived.Test.YtndeidcddlmhbaaDoorProg
namespace Go.Proofs
open Go.Shelf
def Tryd.lays160_ren : Go.Shelf.Ren := ⟨fun | 160 => 166 | 232 => 180 | 231 => 179 | 227 => 181 | 234 => 183 | 233 => 182 | 236 => 185 | 235 => 184 | 228 => 204 | 271 => 207 | 151 => 206 | 197 => 205 | 120 => 214 | 152 => 213 | 260 => 212 | 137 => 215 | 119 => 216 | 224 => 217 | 225 => 218 | 217 => 219 | 266 => 220 | n => n, fun | 9 => 9 | 4 => 4 | 3 => 3 | 5 => 5 | 117 => 255 | 116 => 254 | 0 => 0 | 124 => 258 | 21 => 21 | 105 => 273 | 46 => 281 | 119 => 280 | 139 => 284 | 138 => 283 | n => n, fun | 3 => 1 | 4 => 2 | n => n⟩
theorem Tryd.lays160 : Go.Proofs.Lays.n160 Tryd.prog Tryd.lays160_ren := {
  mixed := by kernel_rfl
  f119 := Tryd.func216.trans (congrArg some (by kernel_rfl))
  f120 := Tryd.func214.trans (congrArg some (by kernel_rfl))
  f137 := Tryd.func215.trans (congrArg some (by kernel_rfl))
  f151 := Tryd.func206.trans (congrArg some (by kernel_rfl))
  f152 := Tryd.func213.trans (congrArg some (by kernel_rfl))
  f160 := Tryd.func166.trans (congrArg some (by kernel_rfl))
  f197 := Tryd.func205.trans (congrArg some (by kernel_rfl))
  f217 := Tryd.func219.trans (congrArg some (by kernel_rfl))
  f224 := Tryd.func217.trans (congrArg some (by kernel_rfl))
  f225 := Tryd.func218.trans (congrArg some (by kernel_rfl))
  f227 := Tryd.func181.trans (congrArg some (by kernel_rfl))
  f228 := Tryd.func204.trans (congrArg some (by kernel_rfl))
  f231 := Tryd.func179.trans (congrArg some (by kernel_rfl))
  f232 := Tryd.func180.trans (congrArg some (by kernel_rfl))
  f233 := Tryd.func182.trans (congrArg some (by kernel_rfl))
  f234 := Tryd.func183.trans (congrArg some (by kernel_rfl))
  f235 := Tryd.func184.trans (congrArg some (by kernel_rfl))
  f236 := Tryd.func185.trans (congrArg some (by kernel_rfl))
  f260 := Tryd.func212.trans (congrArg some (by kernel_rfl))
  f266 := Tryd.func220.trans (congrArg some (by kernel_rfl))
  f271 := Tryd.func207.trans (congrArg some (by kernel_rfl))
  t0 := Tryd.underlying0
  a0 := Tryd.isAgg0
  z0 := Tryd.sizeOf0
  v0 := Tryd.zeroValue0
  t3 := Tryd.underlying3
  a3 := Tryd.isAgg3
  z3 := Tryd.sizeOf3
  v3 := Tryd.zeroValue3
  t4 := Tryd.underlying4
  a4 := Tryd.isAgg4
  z4 := Tryd.sizeOf4
  v4 := Tryd.zeroValue4
  t5 := Tryd.underlying5
  a5 := Tryd.isAgg5
  z5 := Tryd.sizeOf5
  v5 := Tryd.zeroValue5
  t9 := Tryd.underlying9
  a9 := Tryd.isAgg9
  z9 := Tryd.sizeOf9
  v9 := Tryd.zeroValue9
  t21 := Tryd.underlying21
  a21 := Tryd.isAgg21
  z21 := Tryd.sizeOf21
  v21 := Tryd.zeroValue21
  t46 := Tryd.underlying281
  a46 := Tryd.isAgg281
  z46 := Tryd.sizeOf281
  v46 := Tryd.zeroValue281
  t105 := Tryd.underlying273
  a105 := Tryd.isAgg273
  z105 := Tryd.sizeOf273
  v105 := Tryd.zeroValue273
  t116 := Tryd.underlying254
  a116 := Tryd.isAgg254
  z116 := Tryd.sizeOf254
  t117 := Tryd.underlying255
  a117 := Tryd.isAgg255
  z117 := Tryd.sizeOf255
  v117 := Tryd.zeroValue255
  t119 := Tryd.underlying280
  a119 := Tryd.isAgg280
  z119 := Tryd.sizeOf280
  t124 := Tryd.underlying258
  a124 := Tryd.isAgg258
  z124 := Tryd.sizeOf258
  v124 := Tryd.zeroValue258
  t138 := Tryd.underlying283
  a138 := Tryd.isAgg283
  z138 := Tryd.sizeOf283
  v138 := Tryd.zeroValue283
  t139 := Tryd.underlying284
  a139 := Tryd.isAgg284
  z139 := Tryd.sizeOf284
  v139 := Tryd.zeroValue284
  g3 := by kernel_rfl
  g4 := by kernel_rfl }
def Tryd.lays106_ren : Go.Shelf.Ren := ⟨fun | 106 => 141 | 213 => 169 | 265 => 190 | n => n, fun | 9 => 9 | 3 => 3 | n => n, fun | n => n⟩
theorem Tryd.lays106 : Go.Proofs.Lays.n106 Tryd.prog Tryd.lays106_ren := {
  mixed := by kernel_rfl
  f106 := Tryd.func141.trans (congrArg some (by kernel_rfl))
  f213 := Tryd.func169.trans (congrArg some (by kernel_rfl))
  f265 := Tryd.func190.trans (congrArg some (by kernel_rfl))
  t3 := Tryd.underlying3
  a3 := Tryd.isAgg3
  z3 := Tryd.sizeOf3
  v3 := Tryd.zeroValue3
  t9 := Tryd.underlying9
  a9 := Tryd.isAgg9
  z9 := Tryd.sizeOf9
  v9 := Tryd.zeroValue9 }
end Go.Proofs
