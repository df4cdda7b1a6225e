/-
  NARROWER THAN 'FOR EVERY INPUT', by the rows' own cells (each row's printed sentence says how): VectorErrors: laid · VectorSums: laid · VectorPrimitive: laid · VectorTurns: laid · VectorPoints: laid · VectorLines: laid · VectorLineErrors: laid · VectorPlanes: laid · VectorCommon: laid · VectorLaws: laid.
  DERIVED. THE GIVEN ROWS OF THIS SEAT. 10 by the template 'for every input the law returns true; each argument reads behind the call as it read before'; 0 by the template 'total and deterministic' (their statements: YtpennccflalobaaGreatDoorTotals.lean).
  GIVEN WITH THE SEED: the statements are not yours to turn. If you find one false, say at which input.
  Laid BY PROGRAM, IN A SANDBOX (cutbox-rows.mjs): the forced cells as the released guide's own fill.sh prints them over the translation 7d2386f68f8ae96f… (all of the seat's roots in one cut). By AI agents, Wed Nov 11 2026. No macro, syntax, notation, axiom, sorry.
-/
import Derived.Test.YtpennccflalobaaGreatDoorChecked
import GoSem.Claim
import GoSem.ClaimJoined
import GoSem.ClaimMapViews
import Derived.JoinedTies
import Derived.KernelRfl
namespace Go.Proofs.YtpennccflalobaaGreatDoor
/- THE CELL 'sum', in the pinned program and in every row, IS THE sha256 OF THE DUMP (.gsa) THAT YtpennccflalobaaGreatDoorProg.lean LOADS. Nothing in Lean hashes anything: it is a label: what it is worth is what the hold of that sum in a sandbox is worth. -/
noncomputable def Tryz.pinned : Pinned := { name := "ytpennccflalobaagreatdoor", sum := "7d2386f68f8ae96fecb806889359910849d7b7aafaaf56706f17c6f324e1e993", checked := Tryz.checked }
namespace Rows
def none {H : Type} : Left H := { results := [], args := [] }

/- WHAT THE LISTED PACKAGE-LEVEL VARIABLES READ AS WHEN THE CALL BEGINS. Each datum BY PROGRAM (the guide's laid-datum.mjs) off the statement by which the dump's own 'gosem.cut.vars' lays the variable. In a bare row this is a premise. The card (YtpennccflalobaaGreatDoorCards.lean) ties it to the program's text. -/
def laid_math_bits_deBruijn32tab {H : Type} : DataW H := .agg [.lit (.int .u8 0), .lit (.int .u8 1), .lit (.int .u8 28), .lit (.int .u8 2), .lit (.int .u8 29), .lit (.int .u8 14), .lit (.int .u8 24), .lit (.int .u8 3), .lit (.int .u8 30), .lit (.int .u8 22), .lit (.int .u8 20), .lit (.int .u8 15), .lit (.int .u8 25), .lit (.int .u8 17), .lit (.int .u8 4), .lit (.int .u8 8), .lit (.int .u8 31), .lit (.int .u8 27), .lit (.int .u8 13), .lit (.int .u8 23), .lit (.int .u8 21), .lit (.int .u8 19), .lit (.int .u8 16), .lit (.int .u8 7), .lit (.int .u8 26), .lit (.int .u8 12), .lit (.int .u8 18), .lit (.int .u8 6), .lit (.int .u8 11), .lit (.int .u8 5), .lit (.int .u8 10), .lit (.int .u8 9)]
def laid_math_bits_deBruijn64tab {H : Type} : DataW H := .agg [.lit (.int .u8 0), .lit (.int .u8 1), .lit (.int .u8 56), .lit (.int .u8 2), .lit (.int .u8 57), .lit (.int .u8 49), .lit (.int .u8 28), .lit (.int .u8 3), .lit (.int .u8 61), .lit (.int .u8 58), .lit (.int .u8 42), .lit (.int .u8 50), .lit (.int .u8 38), .lit (.int .u8 29), .lit (.int .u8 17), .lit (.int .u8 4), .lit (.int .u8 62), .lit (.int .u8 47), .lit (.int .u8 59), .lit (.int .u8 36), .lit (.int .u8 45), .lit (.int .u8 43), .lit (.int .u8 51), .lit (.int .u8 22), .lit (.int .u8 53), .lit (.int .u8 39), .lit (.int .u8 33), .lit (.int .u8 30), .lit (.int .u8 24), .lit (.int .u8 18), .lit (.int .u8 12), .lit (.int .u8 5), .lit (.int .u8 63), .lit (.int .u8 55), .lit (.int .u8 48), .lit (.int .u8 27), .lit (.int .u8 60), .lit (.int .u8 41), .lit (.int .u8 37), .lit (.int .u8 16), .lit (.int .u8 46), .lit (.int .u8 35), .lit (.int .u8 44), .lit (.int .u8 21), .lit (.int .u8 52), .lit (.int .u8 32), .lit (.int .u8 23), .lit (.int .u8 11), .lit (.int .u8 54), .lit (.int .u8 26), .lit (.int .u8 40), .lit (.int .u8 15), .lit (.int .u8 34), .lit (.int .u8 20), .lit (.int .u8 31), .lit (.int .u8 10), .lit (.int .u8 25), .lit (.int .u8 14), .lit (.int .u8 19), .lit (.int .u8 9), .lit (.int .u8 13), .lit (.int .u8 8), .lit (.int .u8 7), .lit (.int .u8 6)]
def laid_internal_strconv_uint64pow10 {H : Type} : DataW H := .agg [.lit (.int .u64 1), .lit (.int .u64 10), .lit (.int .u64 100), .lit (.int .u64 1000), .lit (.int .u64 10000), .lit (.int .u64 100000), .lit (.int .u64 1000000), .lit (.int .u64 10000000), .lit (.int .u64 100000000), .lit (.int .u64 1000000000), .lit (.int .u64 10000000000), .lit (.int .u64 100000000000), .lit (.int .u64 1000000000000), .lit (.int .u64 10000000000000), .lit (.int .u64 100000000000000), .lit (.int .u64 1000000000000000), .lit (.int .u64 10000000000000000), .lit (.int .u64 100000000000000000), .lit (.int .u64 1000000000000000000), .lit (.int .u64 10000000000000000000)]
def laid_strconv_ErrRange {H : Type} : DataW H := .iface "*errors.errorString" (.ptr (.agg [.lit (.string [118, 97, 108, 117, 101, 32, 111, 117, 116, 32, 111, 102, 32, 114, 97, 110, 103, 101])]))
def laid_strconv_ErrSyntax {H : Type} : DataW H := .iface "*errors.errorString" (.ptr (.agg [.lit (.string [105, 110, 118, 97, 108, 105, 100, 32, 115, 121, 110, 116, 97, 120])]))
def laid_klippe_vector_zero {H : Type} : DataW H := .agg [.lit (.string [48]), .lit (.string [48]), .lit (.string [48])]

/-- 'klippelaw05.VectorErrors': WHATEVER THE INPUT: true; the input reads as it did. -/
def vectorErrorsSpec : ChangeSpec := { name := "vectorErrors", fn := fun _ => fun
  | [d1, d2, d3] => { results := [.lit (.bool true)], args := [d1, d2, d3] }
  | _ => none }
def vectorErrorsRow : OpenClaim := { program := "ytpennccflalobaagreatdoor", sum := "7d2386f68f8ae96fecb806889359910849d7b7aafaaf56706f17c6f324e1e993", func := "klippe/klippelaw05.VectorErrors", spec := "vectorErrors", inPlace := ["internal/bytealg.IndexByteString", "internal/bytealg.IndexString", "internal/bytealg.abigen_runtime_cmpstring"], unfollowed := true, recurses := true, named := ["internal/strconv.uint64pow10", "math/bits.deBruijn32tab", "math/bits.deBruijn64tab", "strconv.ErrSyntax", "strconv.ErrRange", "internal/bytealg.MaxLen", "klippe/vector.zero"], apart := false, laid := [("math/bits.deBruijn32tab", laid_math_bits_deBruijn32tab), ("math/bits.deBruijn64tab", laid_math_bits_deBruijn64tab), ("internal/strconv.uint64pow10", laid_internal_strconv_uint64pow10), ("strconv.ErrRange", laid_strconv_ErrRange), ("strconv.ErrSyntax", laid_strconv_ErrSyntax), ("klippe/vector.zero", laid_klippe_vector_zero)] }
def VectorErrorsSaid : Prop := vectorErrorsRow.holds Tryz.pinned (OpenSpec.ofChange vectorErrorsSpec)

/-- ITS FALSE NEIGHBOUR: 'it returns false'. Refute it at one input. -/
def vectorErrorsWrong : ChangeSpec := { name := "vectorErrors", fn := fun _ => fun
  | [d1, d2, d3] => { results := [.lit (.bool false)], args := [d1, d2, d3] }
  | _ => none }
def VectorErrorsWrongFalsely : Prop := vectorErrorsRow.holds Tryz.pinned (OpenSpec.ofChange vectorErrorsWrong)

/-- 'klippelaw05.VectorSums': WHATEVER THE INPUT: true; the input reads as it did. -/
def vectorSumsSpec : ChangeSpec := { name := "vectorSums", fn := fun _ => fun
  | [d1, d2] => { results := [.lit (.bool true)], args := [d1, d2] }
  | _ => none }
def vectorSumsRow : OpenClaim := { program := "ytpennccflalobaagreatdoor", sum := "7d2386f68f8ae96fecb806889359910849d7b7aafaaf56706f17c6f324e1e993", func := "klippe/klippelaw05.VectorSums", spec := "vectorSums", inPlace := ["internal/bytealg.IndexByteString", "internal/bytealg.IndexString", "internal/bytealg.abigen_runtime_cmpstring"], unfollowed := true, recurses := true, named := ["internal/strconv.uint64pow10", "math/bits.deBruijn32tab", "math/bits.deBruijn64tab", "strconv.ErrSyntax", "strconv.ErrRange", "internal/bytealg.MaxLen", "klippe/vector.zero"], apart := false, laid := [("math/bits.deBruijn32tab", laid_math_bits_deBruijn32tab), ("math/bits.deBruijn64tab", laid_math_bits_deBruijn64tab), ("internal/strconv.uint64pow10", laid_internal_strconv_uint64pow10), ("strconv.ErrRange", laid_strconv_ErrRange), ("strconv.ErrSyntax", laid_strconv_ErrSyntax), ("klippe/vector.zero", laid_klippe_vector_zero)] }
def VectorSumsSaid : Prop := vectorSumsRow.holds Tryz.pinned (OpenSpec.ofChange vectorSumsSpec)

/-- ITS FALSE NEIGHBOUR: 'it returns false'. Refute it at one input. -/
def vectorSumsWrong : ChangeSpec := { name := "vectorSums", fn := fun _ => fun
  | [d1, d2] => { results := [.lit (.bool false)], args := [d1, d2] }
  | _ => none }
def VectorSumsWrongFalsely : Prop := vectorSumsRow.holds Tryz.pinned (OpenSpec.ofChange vectorSumsWrong)

/-- 'klippelaw05.VectorPrimitive': WHATEVER THE INPUT: true; the input reads as it did. -/
def vectorPrimitiveSpec : ChangeSpec := { name := "vectorPrimitive", fn := fun _ => fun
  | [d] => { results := [.lit (.bool true)], args := [d] }
  | _ => none }
def vectorPrimitiveRow : OpenClaim := { program := "ytpennccflalobaagreatdoor", sum := "7d2386f68f8ae96fecb806889359910849d7b7aafaaf56706f17c6f324e1e993", func := "klippe/klippelaw05.VectorPrimitive", spec := "vectorPrimitive", inPlace := ["internal/bytealg.IndexByteString", "internal/bytealg.IndexString", "internal/bytealg.abigen_runtime_cmpstring"], unfollowed := true, recurses := true, named := ["internal/strconv.uint64pow10", "math/bits.deBruijn32tab", "math/bits.deBruijn64tab", "strconv.ErrSyntax", "strconv.ErrRange", "internal/bytealg.MaxLen", "klippe/vector.zero"], apart := false, laid := [("math/bits.deBruijn32tab", laid_math_bits_deBruijn32tab), ("math/bits.deBruijn64tab", laid_math_bits_deBruijn64tab), ("internal/strconv.uint64pow10", laid_internal_strconv_uint64pow10), ("strconv.ErrRange", laid_strconv_ErrRange), ("strconv.ErrSyntax", laid_strconv_ErrSyntax), ("klippe/vector.zero", laid_klippe_vector_zero)] }
def VectorPrimitiveSaid : Prop := vectorPrimitiveRow.holds Tryz.pinned (OpenSpec.ofChange vectorPrimitiveSpec)

/-- ITS FALSE NEIGHBOUR: 'it returns false'. Refute it at one input. -/
def vectorPrimitiveWrong : ChangeSpec := { name := "vectorPrimitive", fn := fun _ => fun
  | [d] => { results := [.lit (.bool false)], args := [d] }
  | _ => none }
def VectorPrimitiveWrongFalsely : Prop := vectorPrimitiveRow.holds Tryz.pinned (OpenSpec.ofChange vectorPrimitiveWrong)

/-- 'klippelaw05.VectorTurns': WHATEVER THE INPUT: true; the input reads as it did. -/
def vectorTurnsSpec : ChangeSpec := { name := "vectorTurns", fn := fun _ => fun
  | [d1, d2, d3] => { results := [.lit (.bool true)], args := [d1, d2, d3] }
  | _ => none }
def vectorTurnsRow : OpenClaim := { program := "ytpennccflalobaagreatdoor", sum := "7d2386f68f8ae96fecb806889359910849d7b7aafaaf56706f17c6f324e1e993", func := "klippe/klippelaw05.VectorTurns", spec := "vectorTurns", inPlace := ["internal/bytealg.IndexByteString", "internal/bytealg.IndexString", "internal/bytealg.abigen_runtime_cmpstring"], unfollowed := true, recurses := true, named := ["internal/strconv.uint64pow10", "math/bits.deBruijn32tab", "math/bits.deBruijn64tab", "strconv.ErrSyntax", "strconv.ErrRange", "internal/bytealg.MaxLen", "klippe/vector.zero"], apart := false, laid := [("math/bits.deBruijn32tab", laid_math_bits_deBruijn32tab), ("math/bits.deBruijn64tab", laid_math_bits_deBruijn64tab), ("internal/strconv.uint64pow10", laid_internal_strconv_uint64pow10), ("strconv.ErrRange", laid_strconv_ErrRange), ("strconv.ErrSyntax", laid_strconv_ErrSyntax), ("klippe/vector.zero", laid_klippe_vector_zero)] }
def VectorTurnsSaid : Prop := vectorTurnsRow.holds Tryz.pinned (OpenSpec.ofChange vectorTurnsSpec)

/-- ITS FALSE NEIGHBOUR: 'it returns false'. Refute it at one input. -/
def vectorTurnsWrong : ChangeSpec := { name := "vectorTurns", fn := fun _ => fun
  | [d1, d2, d3] => { results := [.lit (.bool false)], args := [d1, d2, d3] }
  | _ => none }
def VectorTurnsWrongFalsely : Prop := vectorTurnsRow.holds Tryz.pinned (OpenSpec.ofChange vectorTurnsWrong)

/-- 'klippelaw05.VectorPoints': WHATEVER THE INPUT: true; the input reads as it did. -/
def vectorPointsSpec : ChangeSpec := { name := "vectorPoints", fn := fun _ => fun
  | [d1, d2, d3] => { results := [.lit (.bool true)], args := [d1, d2, d3] }
  | _ => none }
def vectorPointsRow : OpenClaim := { program := "ytpennccflalobaagreatdoor", sum := "7d2386f68f8ae96fecb806889359910849d7b7aafaaf56706f17c6f324e1e993", func := "klippe/klippelaw05.VectorPoints", spec := "vectorPoints", inPlace := ["internal/bytealg.IndexByteString", "internal/bytealg.IndexString", "internal/bytealg.abigen_runtime_cmpstring"], unfollowed := true, recurses := true, named := ["internal/strconv.uint64pow10", "math/bits.deBruijn32tab", "math/bits.deBruijn64tab", "strconv.ErrSyntax", "strconv.ErrRange", "internal/bytealg.MaxLen", "klippe/vector.zero"], apart := false, laid := [("math/bits.deBruijn32tab", laid_math_bits_deBruijn32tab), ("math/bits.deBruijn64tab", laid_math_bits_deBruijn64tab), ("internal/strconv.uint64pow10", laid_internal_strconv_uint64pow10), ("strconv.ErrRange", laid_strconv_ErrRange), ("strconv.ErrSyntax", laid_strconv_ErrSyntax), ("klippe/vector.zero", laid_klippe_vector_zero)] }
def VectorPointsSaid : Prop := vectorPointsRow.holds Tryz.pinned (OpenSpec.ofChange vectorPointsSpec)

/-- ITS FALSE NEIGHBOUR: 'it returns false'. Refute it at one input. -/
def vectorPointsWrong : ChangeSpec := { name := "vectorPoints", fn := fun _ => fun
  | [d1, d2, d3] => { results := [.lit (.bool false)], args := [d1, d2, d3] }
  | _ => none }
def VectorPointsWrongFalsely : Prop := vectorPointsRow.holds Tryz.pinned (OpenSpec.ofChange vectorPointsWrong)

/-- 'klippelaw05.VectorLines': WHATEVER THE INPUT: true; the input reads as it did. -/
def vectorLinesSpec : ChangeSpec := { name := "vectorLines", fn := fun _ => fun
  | [d1, d2] => { results := [.lit (.bool true)], args := [d1, d2] }
  | _ => none }
def vectorLinesRow : OpenClaim := { program := "ytpennccflalobaagreatdoor", sum := "7d2386f68f8ae96fecb806889359910849d7b7aafaaf56706f17c6f324e1e993", func := "klippe/klippelaw05.VectorLines", spec := "vectorLines", inPlace := ["internal/bytealg.IndexByteString", "internal/bytealg.IndexString", "internal/bytealg.abigen_runtime_cmpstring"], unfollowed := true, recurses := true, named := ["internal/strconv.uint64pow10", "math/bits.deBruijn32tab", "math/bits.deBruijn64tab", "strconv.ErrSyntax", "strconv.ErrRange", "internal/bytealg.MaxLen", "klippe/vector.zero"], apart := false, laid := [("math/bits.deBruijn32tab", laid_math_bits_deBruijn32tab), ("math/bits.deBruijn64tab", laid_math_bits_deBruijn64tab), ("internal/strconv.uint64pow10", laid_internal_strconv_uint64pow10), ("strconv.ErrRange", laid_strconv_ErrRange), ("strconv.ErrSyntax", laid_strconv_ErrSyntax), ("klippe/vector.zero", laid_klippe_vector_zero)] }
def VectorLinesSaid : Prop := vectorLinesRow.holds Tryz.pinned (OpenSpec.ofChange vectorLinesSpec)

/-- ITS FALSE NEIGHBOUR: 'it returns false'. Refute it at one input. -/
def vectorLinesWrong : ChangeSpec := { name := "vectorLines", fn := fun _ => fun
  | [d1, d2] => { results := [.lit (.bool false)], args := [d1, d2] }
  | _ => none }
def VectorLinesWrongFalsely : Prop := vectorLinesRow.holds Tryz.pinned (OpenSpec.ofChange vectorLinesWrong)

/-- 'klippelaw05.VectorLineErrors': WHATEVER THE INPUT: true; the input reads as it did. -/
def vectorLineErrorsSpec : ChangeSpec := { name := "vectorLineErrors", fn := fun _ => fun
  | [d1, d2] => { results := [.lit (.bool true)], args := [d1, d2] }
  | _ => none }
def vectorLineErrorsRow : OpenClaim := { program := "ytpennccflalobaagreatdoor", sum := "7d2386f68f8ae96fecb806889359910849d7b7aafaaf56706f17c6f324e1e993", func := "klippe/klippelaw05.VectorLineErrors", spec := "vectorLineErrors", inPlace := ["internal/bytealg.IndexByteString", "internal/bytealg.IndexString", "internal/bytealg.abigen_runtime_cmpstring"], unfollowed := true, recurses := true, named := ["internal/strconv.uint64pow10", "math/bits.deBruijn32tab", "math/bits.deBruijn64tab", "strconv.ErrSyntax", "strconv.ErrRange", "internal/bytealg.MaxLen", "klippe/vector.zero"], apart := false, laid := [("math/bits.deBruijn32tab", laid_math_bits_deBruijn32tab), ("math/bits.deBruijn64tab", laid_math_bits_deBruijn64tab), ("internal/strconv.uint64pow10", laid_internal_strconv_uint64pow10), ("strconv.ErrRange", laid_strconv_ErrRange), ("strconv.ErrSyntax", laid_strconv_ErrSyntax), ("klippe/vector.zero", laid_klippe_vector_zero)] }
def VectorLineErrorsSaid : Prop := vectorLineErrorsRow.holds Tryz.pinned (OpenSpec.ofChange vectorLineErrorsSpec)

/-- ITS FALSE NEIGHBOUR: 'it returns false'. Refute it at one input. -/
def vectorLineErrorsWrong : ChangeSpec := { name := "vectorLineErrors", fn := fun _ => fun
  | [d1, d2] => { results := [.lit (.bool false)], args := [d1, d2] }
  | _ => none }
def VectorLineErrorsWrongFalsely : Prop := vectorLineErrorsRow.holds Tryz.pinned (OpenSpec.ofChange vectorLineErrorsWrong)

/-- 'klippelaw05.VectorPlanes': WHATEVER THE INPUT: true; the input reads as it did. -/
def vectorPlanesSpec : ChangeSpec := { name := "vectorPlanes", fn := fun _ => fun
  | [d1, d2] => { results := [.lit (.bool true)], args := [d1, d2] }
  | _ => none }
def vectorPlanesRow : OpenClaim := { program := "ytpennccflalobaagreatdoor", sum := "7d2386f68f8ae96fecb806889359910849d7b7aafaaf56706f17c6f324e1e993", func := "klippe/klippelaw05.VectorPlanes", spec := "vectorPlanes", inPlace := ["internal/bytealg.IndexByteString", "internal/bytealg.IndexString", "internal/bytealg.abigen_runtime_cmpstring"], unfollowed := true, recurses := true, named := ["internal/strconv.uint64pow10", "math/bits.deBruijn32tab", "math/bits.deBruijn64tab", "strconv.ErrSyntax", "strconv.ErrRange", "internal/bytealg.MaxLen", "klippe/vector.zero"], apart := false, laid := [("math/bits.deBruijn32tab", laid_math_bits_deBruijn32tab), ("math/bits.deBruijn64tab", laid_math_bits_deBruijn64tab), ("internal/strconv.uint64pow10", laid_internal_strconv_uint64pow10), ("strconv.ErrRange", laid_strconv_ErrRange), ("strconv.ErrSyntax", laid_strconv_ErrSyntax), ("klippe/vector.zero", laid_klippe_vector_zero)] }
def VectorPlanesSaid : Prop := vectorPlanesRow.holds Tryz.pinned (OpenSpec.ofChange vectorPlanesSpec)

/-- ITS FALSE NEIGHBOUR: 'it returns false'. Refute it at one input. -/
def vectorPlanesWrong : ChangeSpec := { name := "vectorPlanes", fn := fun _ => fun
  | [d1, d2] => { results := [.lit (.bool false)], args := [d1, d2] }
  | _ => none }
def VectorPlanesWrongFalsely : Prop := vectorPlanesRow.holds Tryz.pinned (OpenSpec.ofChange vectorPlanesWrong)

/-- 'klippelaw05.VectorCommon': WHATEVER THE INPUT: true; the input reads as it did. -/
def vectorCommonSpec : ChangeSpec := { name := "vectorCommon", fn := fun _ => fun
  | [d1, d2] => { results := [.lit (.bool true)], args := [d1, d2] }
  | _ => none }
def vectorCommonRow : OpenClaim := { program := "ytpennccflalobaagreatdoor", sum := "7d2386f68f8ae96fecb806889359910849d7b7aafaaf56706f17c6f324e1e993", func := "klippe/klippelaw05.VectorCommon", spec := "vectorCommon", inPlace := ["internal/bytealg.IndexByteString", "internal/bytealg.IndexString", "internal/bytealg.abigen_runtime_cmpstring"], unfollowed := true, recurses := true, named := ["internal/strconv.uint64pow10", "math/bits.deBruijn32tab", "math/bits.deBruijn64tab", "strconv.ErrSyntax", "strconv.ErrRange", "internal/bytealg.MaxLen", "klippe/vector.zero"], apart := false, laid := [("math/bits.deBruijn32tab", laid_math_bits_deBruijn32tab), ("math/bits.deBruijn64tab", laid_math_bits_deBruijn64tab), ("internal/strconv.uint64pow10", laid_internal_strconv_uint64pow10), ("strconv.ErrRange", laid_strconv_ErrRange), ("strconv.ErrSyntax", laid_strconv_ErrSyntax), ("klippe/vector.zero", laid_klippe_vector_zero)] }
def VectorCommonSaid : Prop := vectorCommonRow.holds Tryz.pinned (OpenSpec.ofChange vectorCommonSpec)

/-- ITS FALSE NEIGHBOUR: 'it returns false'. Refute it at one input. -/
def vectorCommonWrong : ChangeSpec := { name := "vectorCommon", fn := fun _ => fun
  | [d1, d2] => { results := [.lit (.bool false)], args := [d1, d2] }
  | _ => none }
def VectorCommonWrongFalsely : Prop := vectorCommonRow.holds Tryz.pinned (OpenSpec.ofChange vectorCommonWrong)

/-- 'klippelaw05.VectorLaws': WHATEVER THE INPUT: true; the input reads as it did. -/
def vectorLawsSpec : ChangeSpec := { name := "vectorLaws", fn := fun _ => fun
  | [d1, d2] => { results := [.lit (.bool true)], args := [d1, d2] }
  | _ => none }
def vectorLawsRow : OpenClaim := { program := "ytpennccflalobaagreatdoor", sum := "7d2386f68f8ae96fecb806889359910849d7b7aafaaf56706f17c6f324e1e993", func := "klippe/klippelaw05.VectorLaws", spec := "vectorLaws", inPlace := ["internal/bytealg.IndexByteString", "internal/bytealg.IndexString", "internal/bytealg.abigen_runtime_cmpstring"], unfollowed := true, recurses := true, named := ["internal/strconv.uint64pow10", "math/bits.deBruijn32tab", "math/bits.deBruijn64tab", "strconv.ErrSyntax", "strconv.ErrRange", "internal/bytealg.MaxLen", "klippe/vector.zero"], apart := false, laid := [("math/bits.deBruijn32tab", laid_math_bits_deBruijn32tab), ("math/bits.deBruijn64tab", laid_math_bits_deBruijn64tab), ("internal/strconv.uint64pow10", laid_internal_strconv_uint64pow10), ("strconv.ErrRange", laid_strconv_ErrRange), ("strconv.ErrSyntax", laid_strconv_ErrSyntax), ("klippe/vector.zero", laid_klippe_vector_zero)] }
def VectorLawsSaid : Prop := vectorLawsRow.holds Tryz.pinned (OpenSpec.ofChange vectorLawsSpec)

/-- ITS FALSE NEIGHBOUR: 'it returns false'. Refute it at one input. -/
def vectorLawsWrong : ChangeSpec := { name := "vectorLaws", fn := fun _ => fun
  | [d1, d2] => { results := [.lit (.bool false)], args := [d1, d2] }
  | _ => none }
def VectorLawsWrongFalsely : Prop := vectorLawsRow.holds Tryz.pinned (OpenSpec.ofChange vectorLawsWrong)

/- THE SECOND FORM. 'bulk': how many values and letters a reading holds, each counted each time it is reached (what is shared counts as often as it is met; a slice's spare places count too). A statement '..UptoSaid' is the law's where the arguments, and the package variables that the reading takes, are together of bulk at most 1048576: NARROWER than '..Said'. Prove '..Said' where nothing that the law and all that it calls make is longer than what came in: it says more and counts as full. Else prove '..UptoSaid'. A law counts once. -/
mutual
def uptoBulk {H : Type} : DataW H → Nat
  | .lit (.string bytes) => bytes.length + 1
  | .lit _ => 1
  | .nil => 1
  | .ptr d => uptoBulk d + 1
  | .slice elems spare => uptoBulkAll elems + uptoBulkAll spare + 1
  | .agg parts => uptoBulkAll parts + 1
  | .iface _ d => uptoBulk d + 1
  | .map entries => uptoBulkEntries entries + 1
  | .held _ => 1
def uptoBulkAll {H : Type} : List (DataW H) → Nat
  | [] => 0
  | d :: r => uptoBulk d + uptoBulkAll r
def uptoBulkEntries {H : Type} : List (Lit × DataW H) → Nat
  | [] => 0
  | x :: r => uptoBulkEntry x + uptoBulkEntries r
def uptoBulkEntry {H : Type} : Lit × DataW H → Nat
  | (.string bytes, d) => bytes.length + uptoBulk d + 1
  | (_, d) => uptoBulk d + 1
 end
def uptoSmall : (H : Type) → List (DataW H) → Bool := fun _ ds => decide (uptoBulkAll ds ≤ 1048576)
def OpenSpec.upto (s : _root_.Go.ChangeSpec) : _root_.Go.OpenSpec := { _root_.Go.OpenSpec.ofChange s with cond := some uptoSmall }

/-- 'klippelaw05.VectorErrors', WHERE WHAT IT READS IS OF BULK AT MOST 1048576: true; the input reads as it did. -/
def vectorErrorsUptoRow : OpenClaim := { program := "ytpennccflalobaagreatdoor", sum := "7d2386f68f8ae96fecb806889359910849d7b7aafaaf56706f17c6f324e1e993", func := "klippe/klippelaw05.VectorErrors", spec := "vectorErrors", inPlace := ["internal/bytealg.IndexByteString", "internal/bytealg.IndexString", "internal/bytealg.abigen_runtime_cmpstring"], unfollowed := true, recurses := true, named := ["internal/strconv.uint64pow10", "math/bits.deBruijn32tab", "math/bits.deBruijn64tab", "strconv.ErrSyntax", "strconv.ErrRange", "internal/bytealg.MaxLen", "klippe/vector.zero"], apart := false, laid := [("math/bits.deBruijn32tab", laid_math_bits_deBruijn32tab), ("math/bits.deBruijn64tab", laid_math_bits_deBruijn64tab), ("internal/strconv.uint64pow10", laid_internal_strconv_uint64pow10), ("strconv.ErrRange", laid_strconv_ErrRange), ("strconv.ErrSyntax", laid_strconv_ErrSyntax), ("klippe/vector.zero", laid_klippe_vector_zero)], narrowed := true }
def VectorErrorsUptoSaid : Prop := vectorErrorsUptoRow.holds Tryz.pinned (OpenSpec.upto vectorErrorsSpec)

/-- 'klippelaw05.VectorSums', WHERE WHAT IT READS IS OF BULK AT MOST 1048576: true; the input reads as it did. -/
def vectorSumsUptoRow : OpenClaim := { program := "ytpennccflalobaagreatdoor", sum := "7d2386f68f8ae96fecb806889359910849d7b7aafaaf56706f17c6f324e1e993", func := "klippe/klippelaw05.VectorSums", spec := "vectorSums", inPlace := ["internal/bytealg.IndexByteString", "internal/bytealg.IndexString", "internal/bytealg.abigen_runtime_cmpstring"], unfollowed := true, recurses := true, named := ["internal/strconv.uint64pow10", "math/bits.deBruijn32tab", "math/bits.deBruijn64tab", "strconv.ErrSyntax", "strconv.ErrRange", "internal/bytealg.MaxLen", "klippe/vector.zero"], apart := false, laid := [("math/bits.deBruijn32tab", laid_math_bits_deBruijn32tab), ("math/bits.deBruijn64tab", laid_math_bits_deBruijn64tab), ("internal/strconv.uint64pow10", laid_internal_strconv_uint64pow10), ("strconv.ErrRange", laid_strconv_ErrRange), ("strconv.ErrSyntax", laid_strconv_ErrSyntax), ("klippe/vector.zero", laid_klippe_vector_zero)], narrowed := true }
def VectorSumsUptoSaid : Prop := vectorSumsUptoRow.holds Tryz.pinned (OpenSpec.upto vectorSumsSpec)

/-- 'klippelaw05.VectorPrimitive', WHERE WHAT IT READS IS OF BULK AT MOST 1048576: true; the input reads as it did. -/
def vectorPrimitiveUptoRow : OpenClaim := { program := "ytpennccflalobaagreatdoor", sum := "7d2386f68f8ae96fecb806889359910849d7b7aafaaf56706f17c6f324e1e993", func := "klippe/klippelaw05.VectorPrimitive", spec := "vectorPrimitive", inPlace := ["internal/bytealg.IndexByteString", "internal/bytealg.IndexString", "internal/bytealg.abigen_runtime_cmpstring"], unfollowed := true, recurses := true, named := ["internal/strconv.uint64pow10", "math/bits.deBruijn32tab", "math/bits.deBruijn64tab", "strconv.ErrSyntax", "strconv.ErrRange", "internal/bytealg.MaxLen", "klippe/vector.zero"], apart := false, laid := [("math/bits.deBruijn32tab", laid_math_bits_deBruijn32tab), ("math/bits.deBruijn64tab", laid_math_bits_deBruijn64tab), ("internal/strconv.uint64pow10", laid_internal_strconv_uint64pow10), ("strconv.ErrRange", laid_strconv_ErrRange), ("strconv.ErrSyntax", laid_strconv_ErrSyntax), ("klippe/vector.zero", laid_klippe_vector_zero)], narrowed := true }
def VectorPrimitiveUptoSaid : Prop := vectorPrimitiveUptoRow.holds Tryz.pinned (OpenSpec.upto vectorPrimitiveSpec)

/-- 'klippelaw05.VectorTurns', WHERE WHAT IT READS IS OF BULK AT MOST 1048576: true; the input reads as it did. -/
def vectorTurnsUptoRow : OpenClaim := { program := "ytpennccflalobaagreatdoor", sum := "7d2386f68f8ae96fecb806889359910849d7b7aafaaf56706f17c6f324e1e993", func := "klippe/klippelaw05.VectorTurns", spec := "vectorTurns", inPlace := ["internal/bytealg.IndexByteString", "internal/bytealg.IndexString", "internal/bytealg.abigen_runtime_cmpstring"], unfollowed := true, recurses := true, named := ["internal/strconv.uint64pow10", "math/bits.deBruijn32tab", "math/bits.deBruijn64tab", "strconv.ErrSyntax", "strconv.ErrRange", "internal/bytealg.MaxLen", "klippe/vector.zero"], apart := false, laid := [("math/bits.deBruijn32tab", laid_math_bits_deBruijn32tab), ("math/bits.deBruijn64tab", laid_math_bits_deBruijn64tab), ("internal/strconv.uint64pow10", laid_internal_strconv_uint64pow10), ("strconv.ErrRange", laid_strconv_ErrRange), ("strconv.ErrSyntax", laid_strconv_ErrSyntax), ("klippe/vector.zero", laid_klippe_vector_zero)], narrowed := true }
def VectorTurnsUptoSaid : Prop := vectorTurnsUptoRow.holds Tryz.pinned (OpenSpec.upto vectorTurnsSpec)

/-- 'klippelaw05.VectorPoints', WHERE WHAT IT READS IS OF BULK AT MOST 1048576: true; the input reads as it did. -/
def vectorPointsUptoRow : OpenClaim := { program := "ytpennccflalobaagreatdoor", sum := "7d2386f68f8ae96fecb806889359910849d7b7aafaaf56706f17c6f324e1e993", func := "klippe/klippelaw05.VectorPoints", spec := "vectorPoints", inPlace := ["internal/bytealg.IndexByteString", "internal/bytealg.IndexString", "internal/bytealg.abigen_runtime_cmpstring"], unfollowed := true, recurses := true, named := ["internal/strconv.uint64pow10", "math/bits.deBruijn32tab", "math/bits.deBruijn64tab", "strconv.ErrSyntax", "strconv.ErrRange", "internal/bytealg.MaxLen", "klippe/vector.zero"], apart := false, laid := [("math/bits.deBruijn32tab", laid_math_bits_deBruijn32tab), ("math/bits.deBruijn64tab", laid_math_bits_deBruijn64tab), ("internal/strconv.uint64pow10", laid_internal_strconv_uint64pow10), ("strconv.ErrRange", laid_strconv_ErrRange), ("strconv.ErrSyntax", laid_strconv_ErrSyntax), ("klippe/vector.zero", laid_klippe_vector_zero)], narrowed := true }
def VectorPointsUptoSaid : Prop := vectorPointsUptoRow.holds Tryz.pinned (OpenSpec.upto vectorPointsSpec)

/-- 'klippelaw05.VectorLines', WHERE WHAT IT READS IS OF BULK AT MOST 1048576: true; the input reads as it did. -/
def vectorLinesUptoRow : OpenClaim := { program := "ytpennccflalobaagreatdoor", sum := "7d2386f68f8ae96fecb806889359910849d7b7aafaaf56706f17c6f324e1e993", func := "klippe/klippelaw05.VectorLines", spec := "vectorLines", inPlace := ["internal/bytealg.IndexByteString", "internal/bytealg.IndexString", "internal/bytealg.abigen_runtime_cmpstring"], unfollowed := true, recurses := true, named := ["internal/strconv.uint64pow10", "math/bits.deBruijn32tab", "math/bits.deBruijn64tab", "strconv.ErrSyntax", "strconv.ErrRange", "internal/bytealg.MaxLen", "klippe/vector.zero"], apart := false, laid := [("math/bits.deBruijn32tab", laid_math_bits_deBruijn32tab), ("math/bits.deBruijn64tab", laid_math_bits_deBruijn64tab), ("internal/strconv.uint64pow10", laid_internal_strconv_uint64pow10), ("strconv.ErrRange", laid_strconv_ErrRange), ("strconv.ErrSyntax", laid_strconv_ErrSyntax), ("klippe/vector.zero", laid_klippe_vector_zero)], narrowed := true }
def VectorLinesUptoSaid : Prop := vectorLinesUptoRow.holds Tryz.pinned (OpenSpec.upto vectorLinesSpec)

/-- 'klippelaw05.VectorLineErrors', WHERE WHAT IT READS IS OF BULK AT MOST 1048576: true; the input reads as it did. -/
def vectorLineErrorsUptoRow : OpenClaim := { program := "ytpennccflalobaagreatdoor", sum := "7d2386f68f8ae96fecb806889359910849d7b7aafaaf56706f17c6f324e1e993", func := "klippe/klippelaw05.VectorLineErrors", spec := "vectorLineErrors", inPlace := ["internal/bytealg.IndexByteString", "internal/bytealg.IndexString", "internal/bytealg.abigen_runtime_cmpstring"], unfollowed := true, recurses := true, named := ["internal/strconv.uint64pow10", "math/bits.deBruijn32tab", "math/bits.deBruijn64tab", "strconv.ErrSyntax", "strconv.ErrRange", "internal/bytealg.MaxLen", "klippe/vector.zero"], apart := false, laid := [("math/bits.deBruijn32tab", laid_math_bits_deBruijn32tab), ("math/bits.deBruijn64tab", laid_math_bits_deBruijn64tab), ("internal/strconv.uint64pow10", laid_internal_strconv_uint64pow10), ("strconv.ErrRange", laid_strconv_ErrRange), ("strconv.ErrSyntax", laid_strconv_ErrSyntax), ("klippe/vector.zero", laid_klippe_vector_zero)], narrowed := true }
def VectorLineErrorsUptoSaid : Prop := vectorLineErrorsUptoRow.holds Tryz.pinned (OpenSpec.upto vectorLineErrorsSpec)

/-- 'klippelaw05.VectorPlanes', WHERE WHAT IT READS IS OF BULK AT MOST 1048576: true; the input reads as it did. -/
def vectorPlanesUptoRow : OpenClaim := { program := "ytpennccflalobaagreatdoor", sum := "7d2386f68f8ae96fecb806889359910849d7b7aafaaf56706f17c6f324e1e993", func := "klippe/klippelaw05.VectorPlanes", spec := "vectorPlanes", inPlace := ["internal/bytealg.IndexByteString", "internal/bytealg.IndexString", "internal/bytealg.abigen_runtime_cmpstring"], unfollowed := true, recurses := true, named := ["internal/strconv.uint64pow10", "math/bits.deBruijn32tab", "math/bits.deBruijn64tab", "strconv.ErrSyntax", "strconv.ErrRange", "internal/bytealg.MaxLen", "klippe/vector.zero"], apart := false, laid := [("math/bits.deBruijn32tab", laid_math_bits_deBruijn32tab), ("math/bits.deBruijn64tab", laid_math_bits_deBruijn64tab), ("internal/strconv.uint64pow10", laid_internal_strconv_uint64pow10), ("strconv.ErrRange", laid_strconv_ErrRange), ("strconv.ErrSyntax", laid_strconv_ErrSyntax), ("klippe/vector.zero", laid_klippe_vector_zero)], narrowed := true }
def VectorPlanesUptoSaid : Prop := vectorPlanesUptoRow.holds Tryz.pinned (OpenSpec.upto vectorPlanesSpec)

/-- 'klippelaw05.VectorCommon', WHERE WHAT IT READS IS OF BULK AT MOST 1048576: true; the input reads as it did. -/
def vectorCommonUptoRow : OpenClaim := { program := "ytpennccflalobaagreatdoor", sum := "7d2386f68f8ae96fecb806889359910849d7b7aafaaf56706f17c6f324e1e993", func := "klippe/klippelaw05.VectorCommon", spec := "vectorCommon", inPlace := ["internal/bytealg.IndexByteString", "internal/bytealg.IndexString", "internal/bytealg.abigen_runtime_cmpstring"], unfollowed := true, recurses := true, named := ["internal/strconv.uint64pow10", "math/bits.deBruijn32tab", "math/bits.deBruijn64tab", "strconv.ErrSyntax", "strconv.ErrRange", "internal/bytealg.MaxLen", "klippe/vector.zero"], apart := false, laid := [("math/bits.deBruijn32tab", laid_math_bits_deBruijn32tab), ("math/bits.deBruijn64tab", laid_math_bits_deBruijn64tab), ("internal/strconv.uint64pow10", laid_internal_strconv_uint64pow10), ("strconv.ErrRange", laid_strconv_ErrRange), ("strconv.ErrSyntax", laid_strconv_ErrSyntax), ("klippe/vector.zero", laid_klippe_vector_zero)], narrowed := true }
def VectorCommonUptoSaid : Prop := vectorCommonUptoRow.holds Tryz.pinned (OpenSpec.upto vectorCommonSpec)

/-- 'klippelaw05.VectorLaws', WHERE WHAT IT READS IS OF BULK AT MOST 1048576: true; the input reads as it did. -/
def vectorLawsUptoRow : OpenClaim := { program := "ytpennccflalobaagreatdoor", sum := "7d2386f68f8ae96fecb806889359910849d7b7aafaaf56706f17c6f324e1e993", func := "klippe/klippelaw05.VectorLaws", spec := "vectorLaws", inPlace := ["internal/bytealg.IndexByteString", "internal/bytealg.IndexString", "internal/bytealg.abigen_runtime_cmpstring"], unfollowed := true, recurses := true, named := ["internal/strconv.uint64pow10", "math/bits.deBruijn32tab", "math/bits.deBruijn64tab", "strconv.ErrSyntax", "strconv.ErrRange", "internal/bytealg.MaxLen", "klippe/vector.zero"], apart := false, laid := [("math/bits.deBruijn32tab", laid_math_bits_deBruijn32tab), ("math/bits.deBruijn64tab", laid_math_bits_deBruijn64tab), ("internal/strconv.uint64pow10", laid_internal_strconv_uint64pow10), ("strconv.ErrRange", laid_strconv_ErrRange), ("strconv.ErrSyntax", laid_strconv_ErrSyntax), ("klippe/vector.zero", laid_klippe_vector_zero)], narrowed := true }
def VectorLawsUptoSaid : Prop := vectorLawsUptoRow.holds Tryz.pinned (OpenSpec.upto vectorLawsSpec)

end Rows
end Go.Proofs.YtpennccflalobaaGreatDoor
