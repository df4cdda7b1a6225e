import Derived.Test.YtpiiclmkbplkhaaGreatDoorRows
import Derived.ProofKit
import Derived.Deep.DeepHandedRow
import Derived.Deep.DeepWitnessRowRef
import Derived.Lib.LaidTab
import Derived.Lib.LaidIn
import Derived.Stop.LaidErr
import Derived.Test.YtpiiclmkbplkhaaGreatDoorKlBIntZ
namespace Go.Proofs.YtpiiclmkbplkhaaGreatDoor.Kl
open Go Go.ChangeShapes Go.WideShapes Go.ChangeAt Go.RowKit Go.Lib
set_option maxRecDepth 100000
set_option maxHeartbeats 8000000
theorem own : ownKnob Tryz.prog.godebug=none:=by kernel_rfl
def leaf : DataW Unit→Value
 | .lit (.int k z)=>.int k z
 | _=>undef
def ints : DataW Unit→List Value
 | .agg l=>l.map leaf
 | _=>[]
def rangeS : ByteArray:=⟨#[118,97,108,117,101,32,111,117,116,32,111,102,32,114,97,110,103,101]⟩
def syntaxS : ByteArray:=⟨#[105,110,118,97,108,105,100,32,115,121,110,116,97,120]⟩
def put (h:Array Obj) (g:Nat) (cs:Array Value):Array Obj:=h.modify g fun
 | .cells _ t frozen=>.cells cs t frozen
 | o=>o
theorem gTab : Tryz.prog.globalNamed "internal/strconv.uint64pow10" = some 4 := by kernel_rfl
theorem gTabT : (Tryz.prog.globals[4]?).map (·.type)=some 223:=by kernel_rfl
theorem cells142 : Tryz.prog.cellsOf 223=20:=by kernel_rfl
theorem cells121 : Tryz.prog.cellsOf 122=1:=by kernel_rfl
theorem gSyn : Tryz.prog.globalNamed "strconv.ErrSyntax" = some 5 := by kernel_rfl
theorem gRng : Tryz.prog.globalNamed "strconv.ErrRange" = some 6 := by kernel_rfl
theorem gSynT : (Tryz.prog.globals[5]?).map (·.type)=some 181:=by kernel_rfl
theorem gRngT : (Tryz.prog.globals[6]?).map (·.type)=some 181:=by kernel_rfl
theorem cells158 : Tryz.prog.cellsOf 235=1:=by kernel_rfl
theorem cells9 : Tryz.prog.cellsOf 9=1:=by kernel_rfl
theorem star : "*" ++ "errors.errorString" = "*errors.errorString" := by decide
theorem row156 (u : TypeId) (h : Tryz.prog.typeName? 3 u = some "*errors.errorString") : u = 233 :=
 typeName_ptr_named (nm := "errors.errorString") (by rw [star]; kernel_rfl) (by kernel_rfl) (by decide) u (by rw [star]; exact h)
end Go.Proofs.YtpiiclmkbplkhaaGreatDoor.Kl
