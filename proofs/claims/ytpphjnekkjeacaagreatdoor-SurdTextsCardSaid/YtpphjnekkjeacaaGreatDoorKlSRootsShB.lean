import Derived.Shelf.Strings.Builder1
import Derived.Shelf.Strings.BuilderF
import Derived.Shelf.Strings.BuilderK
import Derived.Shelf.LaysM
import Derived.Shelf.LaysC
import Derived.Test.YtpphjnekkjeacaaGreatDoorProg
/- strings.Builder's WriteString, laid at this program by hand: the tool does not find the type of one number of its closure (interface {}). -/
namespace Go.Proofs
open Go.Shelf
def Tryz.lays166_ren : Go.Shelf.Ren:=⟨fun | 166=>80 | 240=>129 | 276=>170 | n=>n,fun | 0=>0 | 3=>3 | 4=>4 | 9=>9 | 20=>20 | 37=>122 | 70=>121 | 72=>124 | 75=>126 | 164=>212 | 5=>5 | 80=>130 | n=>n,fun | n=>n⟩
theorem Tryz.lays166 : Go.Proofs.Lays.n166 Tryz.prog Tryz.lays166_ren:={
  mixed:=by kernel_rfl
  f166:=Tryz.func80.trans (congrArg some (by kernel_rfl))
  f240:=Tryz.func129.trans (congrArg some (by kernel_rfl))
  f276:=Tryz.func170.trans (congrArg some (by kernel_rfl))
  t0:=Tryz.underlying0
  a0:=Tryz.isAgg0
  z0:=Tryz.sizeOf0
  v0:=Tryz.zeroValue0
  t3:=Tryz.underlying3
  a3:=Tryz.isAgg3
  z3:=Tryz.sizeOf3
  v3:=Tryz.zeroValue3
  t4:=Tryz.underlying4
  a4:=Tryz.isAgg4
  z4:=Tryz.sizeOf4
  v4:=Tryz.zeroValue4
  t9:=Tryz.underlying9
  a9:=Tryz.isAgg9
  z9:=Tryz.sizeOf9
  v9:=Tryz.zeroValue9
  t20:=Tryz.underlying20
  a20:=Tryz.isAgg20
  z20:=Tryz.sizeOf20
  v20:=Tryz.zeroValue20
  t37:=Tryz.underlying122
  a37:=Tryz.isAgg122
  z37:=Tryz.sizeOf122
  v37:=Tryz.zeroValue122
  t70:=Tryz.underlying121
  a70:=Tryz.isAgg121
  z70:=Tryz.sizeOf121
  v70:=Tryz.zeroValue121
  t72:=Tryz.underlying124
  a72:=Tryz.isAgg124
  z72:=Tryz.sizeOf124
  v72:=Tryz.zeroValue124
  t75:=Tryz.underlying126
  a75:=Tryz.isAgg126
  z75:=Tryz.sizeOf126
  v75:=Tryz.zeroValue126
  t164:=Tryz.underlying212
  a164:=Tryz.isAgg212
  z164:=Tryz.sizeOf212
  v164:=Tryz.zeroValue212 }
theorem Tryz.Builder_Extra_166 : Builder.Extra Tryz.prog Tryz.lays166_ren:={
  sizeBuilder:=by kernel_rfl
  liesBuilder:=by kernel_rfl
  t5:=Tryz.underlying5
  a5:=Tryz.isAgg5
  z5:=Tryz.sizeOf5
  v5:=Tryz.zeroValue5
  infoByte:=by kernel_rfl
  cellsByte:=by kernel_rfl
  sizeByte:=by kernel_rfl
  neB5:=by decide }
def Tryz.lays169_ren : Go.Shelf.Ren:=⟨fun | 169=>82 | n=>n,fun | 70=>121 | 9=>9 | 0=>0 | 72=>124 | 37=>122 | 127=>173 | 3=>3 | 5=>5 | n=>n,fun | n=>n⟩
theorem Tryz.lays169 : Go.Proofs.Lays.n169 Tryz.prog Tryz.lays169_ren:={
  mixed:=by kernel_rfl
  f169:=Tryz.func82.trans (congrArg some (by kernel_rfl))
  t0:=Tryz.underlying0
  a0:=Tryz.isAgg0
  z0:=Tryz.sizeOf0
  v0:=Tryz.zeroValue0
  t3:=Tryz.underlying3
  a3:=Tryz.isAgg3
  z3:=Tryz.sizeOf3
  v3:=Tryz.zeroValue3
  t9:=Tryz.underlying9
  a9:=Tryz.isAgg9
  z9:=Tryz.sizeOf9
  v9:=Tryz.zeroValue9
  t37:=Tryz.underlying122
  a37:=Tryz.isAgg122
  z37:=Tryz.sizeOf122
  v37:=Tryz.zeroValue122
  t70:=Tryz.underlying121
  a70:=Tryz.isAgg121
  z70:=Tryz.sizeOf121
  v70:=Tryz.zeroValue121
  t72:=Tryz.underlying124
  a72:=Tryz.isAgg124
  z72:=Tryz.sizeOf124
  v72:=Tryz.zeroValue124
  t127:=Tryz.underlying173
  a127:=Tryz.isAgg173
  z127:=Tryz.sizeOf173
  v127:=Tryz.zeroValue173 }
theorem Tryz.Builder_Extra_169 : Builder.Extra Tryz.prog Tryz.lays169_ren:={
  sizeBuilder:=by kernel_rfl
  liesBuilder:=by kernel_rfl
  t5:=Tryz.underlying5
  a5:=Tryz.isAgg5
  z5:=Tryz.sizeOf5
  v5:=Tryz.zeroValue5
  infoByte:=by kernel_rfl
  cellsByte:=by kernel_rfl
  sizeByte:=by kernel_rfl
  neB5:=by decide }
open Go.RowKit in
theorem Tryz.bWrite (B b:Nat) (bs:List Value) (s:ByteArray) (w:World) (h:Lib.IsBuilderF 124 5 B b bs w) (hlen:bs.length+s.size≤140737488355328) (hBw:B≤w.heap.size) :
    Calls Tryz.prog 80 #[.pointer (some ⟨b,0,none⟩),.string s] w fun e w' => e = .returned (.tuple #[.int .i64 s.size,.nilIface])∧(Lib.BuilderAtF 124 5 B b (.pointer (some ⟨b,0,none⟩)) (bs ++ Lib.strCells s) w'∧Below B w w'):=Any.Builder_WriteString_f Tryz.lays166 Tryz.Builder_Extra_166 B b bs s w h hlen hBw
open Go.RowKit in
theorem Tryz.bString (B b:Nat) (l:List UInt8) (w:World) (h:Lib.IsBuilderF 124 5 B b (Lib.byteCells l) w) (hBw:B≤w.heap.size) :
    Calls Tryz.prog 82 #[.pointer (some ⟨b,0,none⟩)] w fun e w' => e = .returned (.string ⟨l.toArray⟩)∧(Lib.IsBuilderF 124 5 B b (Lib.byteCells l) w'∧Below B w w'):=Any.Builder_String_any_f Tryz.lays169 Tryz.Builder_Extra_169 B b l w h hBw
end Go.Proofs
