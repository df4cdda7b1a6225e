/- What the listed variables hold: a world for the witness; and what the list gives a walk. -/
import Derived.Test.YtgllflfifbacnaaGreatDoorRows
import Derived.Test.YtgllflfifbacnaaGreatDoorKlInt
import Derived.ProofKit
import Derived.Deep.DeepHandedRow
import Derived.Deep.DeepWitnessRowRef
import Derived.Lib.LaidTab
import Derived.Lib.LaidIn
import Derived.Stop.LaidErr
namespace Go.Proofs.YtgllflfifbacnaaGreatDoor.Kl
open Go Go.ChangeShapes Go.WideShapes Go.ChangeAt Go.RowKit Go.Lib

theorem own : ownKnob Tryz.prog.godebug = none := by kernel_rfl

def leaf : DataW Unit → Value
  | .lit (.int k z) => .int k z
  | _ => undef
def ints : DataW Unit → List Value
  | .agg l => l.map leaf
  | _ => []
def pairs : DataW Unit → List Value
  | .agg l => l.flatMap ints
  | _ => []
def rangeS : ByteArray := ⟨#[118, 97, 108, 117, 101, 32, 111, 117, 116, 32, 111, 102, 32, 114, 97, 110, 103, 101]⟩
def syntaxS : ByteArray := ⟨#[105, 110, 118, 97, 108, 105, 100, 32, 115, 121, 110, 116, 97, 120]⟩
def put (h : Array Obj) (g : Nat) (cs : Array Value) : Array Obj := h.modify g fun
  | .cells _ t frozen => .cells cs t frozen
  | o => o

/-- The settled world with two blocks more (the sentinels' own), the seven listed variables holding what their initialisers lay. -/
noncomputable def laidWorld (os : Os) : World :=
  let N := (World.settled Tryz.prog os).heap.size
  let w0 := World.holding Tryz.prog os ⟨#[.cells #[.string rangeS] 224, .cells #[.string syntaxS] 224], #[], []⟩
  let h0 := put w0.heap 1 #[.iface 222 (.pointer (some ⟨N + 1, 0, none⟩))]
  let h1 := put h0 2 #[.iface 222 (.pointer (some ⟨N, 0, none⟩))]
  let h2 := put h1 3 (ints Rows.laid_internal_strconv_uint64pow10).toArray
  let h3 := put h2 4 (ints Rows.laid_unicode_utf8_first).toArray
  let h4 := put h3 5 (pairs Rows.laid_unicode_utf8_acceptRanges).toArray
  let h6 := put h4 6 (ints Rows.laid_math_bits_deBruijn32tab).toArray
  let h7 := put h6 7 (ints Rows.laid_math_bits_deBruijn64tab).toArray
  { w0 with heap := h7 }
noncomputable def N0 : Nat := (World.settled Tryz.prog default).heap.size

set_option maxRecDepth 1000000 in
theorem pieceA (os : Os) (args : Array Value) : LaidIn Tryz.prog ((laidWorld os).forCall (fun _ _ => 0) ⟨#[], args, []⟩).memory [("math/bits.deBruijn32tab", Rows.laid_math_bits_deBruijn32tab), ("math/bits.deBruijn64tab", Rows.laid_math_bits_deBruijn64tab), ("internal/strconv.uint64pow10", Rows.laid_internal_strconv_uint64pow10), ("unicode/utf8.acceptRanges", Rows.laid_unicode_utf8_acceptRanges)] [6, 7, 3, 5] :=
  LaidIn.of_run [6, 7, 3, 5] 8 (by kernel_rfl) (by kernel_rfl) (by kernel_rfl) (by kernel_rfl)
set_option maxRecDepth 1000000 in
theorem pieceB (os : Os) (args : Array Value) : LaidIn Tryz.prog ((laidWorld os).forCall (fun _ _ => 0) ⟨#[], args, []⟩).memory [("strconv.ErrRange", Rows.laid_strconv_ErrRange), ("strconv.ErrSyntax", Rows.laid_strconv_ErrSyntax)] [2, N0, 1, N0 + 1] :=
  LaidIn.of_run [2, N0, 1, N0 + 1] 8 (by kernel_rfl) (by kernel_rfl) (by kernel_rfl) (by kernel_rfl)
set_option maxRecDepth 1000000 in
theorem pieceC (os : Os) (args : Array Value) : LaidIn Tryz.prog ((laidWorld os).forCall (fun _ _ => 0) ⟨#[], args, []⟩).memory [("unicode/utf8.first", Rows.laid_unicode_utf8_first)] [4] :=
  LaidIn.of_run [4] 8 (by kernel_rfl) (by kernel_rfl) (by kernel_rfl) (by kernel_rfl)
end Go.Proofs.YtgllflfifbacnaaGreatDoor.Kl
/- What the row's list gives a walk. -/
namespace Go.Proofs.YtgllflfifbacnaaGreatDoor.Kl
open Go Go.ChangeShapes Go.WideShapes Go.ChangeAt Go.RowKit Go.Lib

theorem gTab : Tryz.prog.globalNamed "internal/strconv.uint64pow10" = some 3 := by kernel_rfl
theorem gTabT : (Tryz.prog.globals[3]?).map (·.type) = some 219 := by kernel_rfl
theorem cells142 : Tryz.prog.cellsOf 219 = 20 := by kernel_rfl
theorem cells121 : Tryz.prog.cellsOf 138 = 1 := by kernel_rfl
theorem gSyn : Tryz.prog.globalNamed "strconv.ErrSyntax" = some 1 := by kernel_rfl
theorem gRng : Tryz.prog.globalNamed "strconv.ErrRange" = some 2 := by kernel_rfl
theorem gSynT : (Tryz.prog.globals[1]?).map (·.type) = some 93 := by kernel_rfl
theorem gRngT : (Tryz.prog.globals[2]?).map (·.type) = some 93 := by kernel_rfl
theorem cells158 : Tryz.prog.cellsOf 224 = 1 := by kernel_rfl
theorem cells9 : Tryz.prog.cellsOf 9 = 1 := by kernel_rfl
theorem star : "*" ++ "errors.errorString" = "*errors.errorString" := by decide
theorem row156 (u : TypeId) (h : Tryz.prog.typeName? 3 u = some "*errors.errorString") : u = 222 :=
  typeName_ptr_named (nm := "errors.errorString") (by rw [star]; kernel_rfl) (by kernel_rfl) (by decide) u (by rw [star]; exact h)

end Go.Proofs.YtgllflfifbacnaaGreatDoor.Kl
