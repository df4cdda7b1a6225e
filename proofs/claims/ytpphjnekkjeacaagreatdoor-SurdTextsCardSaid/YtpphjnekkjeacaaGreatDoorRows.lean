/-
  NARROWER THAN 'FOR EVERY INPUT', by the rows' own cells (each row's printed sentence says how): SurdRoots: laid · SurdAdds: laid · SurdScales: laid · SurdSigns: laid · SurdNear: laid · SurdRationals: laid · SurdBounds: laid · SurdTexts: laid · SurdSquares: laid · SurdLaws: laid.
  DERIVED. THE GIVEN ROWS OF THIS SEAT. 10 by the template 'for every input the law returns true; each argument reads behind the call as it read before'; 0 by the template 'total and deterministic' (their statements: YtpphjnekkjeacaaGreatDoorTotals.lean).
  GIVEN WITH THE SEED: the statements are not yours to turn. If you find one false, say at which input.
  Laid BY PROGRAM, IN A SANDBOX (cutbox-rows.mjs): the forced cells as the released guide's own fill.sh prints them over the translation f58f116a08765f2e… (all of the seat's roots in one cut). By AI agents, Wed Nov 11 2026. No macro, syntax, notation, axiom, sorry.
-/
import Derived.Test.YtpphjnekkjeacaaGreatDoorChecked
import GoSem.Claim
import GoSem.ClaimJoined
import GoSem.ClaimMapViews
import Derived.JoinedTies
import Derived.KernelRfl
namespace Go.Proofs.YtpphjnekkjeacaaGreatDoor
/- THE CELL 'sum', in the pinned program and in every row, IS THE sha256 OF THE DUMP (.gsa) THAT YtpphjnekkjeacaaGreatDoorProg.lean LOADS. Nothing in Lean hashes anything: it is a label: what it is worth is what the hold of that sum in a sandbox is worth. -/
noncomputable def Tryz.pinned : Pinned := { name := "ytpphjnekkjeacaagreatdoor", sum := "f58f116a08765f2ef45b8b90c425de42f5709fea97aaddce53951d48f9584c79", checked := Tryz.checked }
namespace Rows
def none {H : Type} : Left H := { results := [], args := [] }

/- WHAT THE LISTED PACKAGE-LEVEL VARIABLES READ AS WHEN THE CALL BEGINS. Each datum BY PROGRAM (the guide's laid-datum.mjs) off the statement by which the dump's own 'gosem.cut.vars' lays the variable. In a bare row this is a premise. The card (YtpphjnekkjeacaaGreatDoorCards.lean) ties it to the program's text. -/
def laid_math_bits_deBruijn32tab {H : Type} : DataW H := .agg [.lit (.int .u8 0), .lit (.int .u8 1), .lit (.int .u8 28), .lit (.int .u8 2), .lit (.int .u8 29), .lit (.int .u8 14), .lit (.int .u8 24), .lit (.int .u8 3), .lit (.int .u8 30), .lit (.int .u8 22), .lit (.int .u8 20), .lit (.int .u8 15), .lit (.int .u8 25), .lit (.int .u8 17), .lit (.int .u8 4), .lit (.int .u8 8), .lit (.int .u8 31), .lit (.int .u8 27), .lit (.int .u8 13), .lit (.int .u8 23), .lit (.int .u8 21), .lit (.int .u8 19), .lit (.int .u8 16), .lit (.int .u8 7), .lit (.int .u8 26), .lit (.int .u8 12), .lit (.int .u8 18), .lit (.int .u8 6), .lit (.int .u8 11), .lit (.int .u8 5), .lit (.int .u8 10), .lit (.int .u8 9)]
def laid_math_bits_deBruijn64tab {H : Type} : DataW H := .agg [.lit (.int .u8 0), .lit (.int .u8 1), .lit (.int .u8 56), .lit (.int .u8 2), .lit (.int .u8 57), .lit (.int .u8 49), .lit (.int .u8 28), .lit (.int .u8 3), .lit (.int .u8 61), .lit (.int .u8 58), .lit (.int .u8 42), .lit (.int .u8 50), .lit (.int .u8 38), .lit (.int .u8 29), .lit (.int .u8 17), .lit (.int .u8 4), .lit (.int .u8 62), .lit (.int .u8 47), .lit (.int .u8 59), .lit (.int .u8 36), .lit (.int .u8 45), .lit (.int .u8 43), .lit (.int .u8 51), .lit (.int .u8 22), .lit (.int .u8 53), .lit (.int .u8 39), .lit (.int .u8 33), .lit (.int .u8 30), .lit (.int .u8 24), .lit (.int .u8 18), .lit (.int .u8 12), .lit (.int .u8 5), .lit (.int .u8 63), .lit (.int .u8 55), .lit (.int .u8 48), .lit (.int .u8 27), .lit (.int .u8 60), .lit (.int .u8 41), .lit (.int .u8 37), .lit (.int .u8 16), .lit (.int .u8 46), .lit (.int .u8 35), .lit (.int .u8 44), .lit (.int .u8 21), .lit (.int .u8 52), .lit (.int .u8 32), .lit (.int .u8 23), .lit (.int .u8 11), .lit (.int .u8 54), .lit (.int .u8 26), .lit (.int .u8 40), .lit (.int .u8 15), .lit (.int .u8 34), .lit (.int .u8 20), .lit (.int .u8 31), .lit (.int .u8 10), .lit (.int .u8 25), .lit (.int .u8 14), .lit (.int .u8 19), .lit (.int .u8 9), .lit (.int .u8 13), .lit (.int .u8 8), .lit (.int .u8 7), .lit (.int .u8 6)]
def laid_internal_strconv_uint64pow10 {H : Type} : DataW H := .agg [.lit (.int .u64 1), .lit (.int .u64 10), .lit (.int .u64 100), .lit (.int .u64 1000), .lit (.int .u64 10000), .lit (.int .u64 100000), .lit (.int .u64 1000000), .lit (.int .u64 10000000), .lit (.int .u64 100000000), .lit (.int .u64 1000000000), .lit (.int .u64 10000000000), .lit (.int .u64 100000000000), .lit (.int .u64 1000000000000), .lit (.int .u64 10000000000000), .lit (.int .u64 100000000000000), .lit (.int .u64 1000000000000000), .lit (.int .u64 10000000000000000), .lit (.int .u64 100000000000000000), .lit (.int .u64 1000000000000000000), .lit (.int .u64 10000000000000000000)]
def laid_strconv_ErrRange {H : Type} : DataW H := .iface "*errors.errorString" (.ptr (.agg [.lit (.string [118, 97, 108, 117, 101, 32, 111, 117, 116, 32, 111, 102, 32, 114, 97, 110, 103, 101])]))
def laid_strconv_ErrSyntax {H : Type} : DataW H := .iface "*errors.errorString" (.ptr (.agg [.lit (.string [105, 110, 118, 97, 108, 105, 100, 32, 115, 121, 110, 116, 97, 120])]))
def laid_klippe_roots_primes {H : Type} : DataW H := .agg [.lit (.int .i64 3), .lit (.int .i64 5), .lit (.int .i64 7), .lit (.int .i64 11), .lit (.int .i64 13), .lit (.int .i64 17), .lit (.int .i64 19), .lit (.int .i64 23), .lit (.int .i64 29), .lit (.int .i64 31), .lit (.int .i64 37), .lit (.int .i64 41), .lit (.int .i64 43), .lit (.int .i64 47)]

/-- 'klippelaw03.SurdRoots': WHATEVER THE INPUT: true; the input reads as it did. -/
def surdRootsSpec : ChangeSpec := { name := "surdRoots", fn := fun _ => fun
  | [d] => { results := [.lit (.bool true)], args := [d] }
  | _ => none }
def surdRootsRow : OpenClaim := { program := "ytpphjnekkjeacaagreatdoor", sum := "f58f116a08765f2ef45b8b90c425de42f5709fea97aaddce53951d48f9584c79", func := "klippe/klippelaw03.SurdRoots", spec := "surdRoots", inPlace := ["internal/bytealg.IndexByteString", "internal/bytealg.IndexString", "internal/bytealg.abigen_runtime_cmpstring", "internal/abi.NoEscape", "internal/bytealg.MakeNoZero"], unfollowed := true, recurses := true, named := ["internal/bytealg.MaxLen", "strconv.ErrSyntax", "strconv.ErrRange", "internal/strconv.uint64pow10", "math/bits.deBruijn32tab", "math/bits.deBruijn64tab", "klippe/roots.primes"], apart := false, laid := [("math/bits.deBruijn32tab", laid_math_bits_deBruijn32tab), ("math/bits.deBruijn64tab", laid_math_bits_deBruijn64tab), ("internal/strconv.uint64pow10", laid_internal_strconv_uint64pow10), ("strconv.ErrRange", laid_strconv_ErrRange), ("strconv.ErrSyntax", laid_strconv_ErrSyntax), ("klippe/roots.primes", laid_klippe_roots_primes)] }
def SurdRootsSaid : Prop := surdRootsRow.holds Tryz.pinned (OpenSpec.ofChange surdRootsSpec)

/-- ITS FALSE NEIGHBOUR: 'it returns false'. Refute it at one input. -/
def surdRootsWrong : ChangeSpec := { name := "surdRoots", fn := fun _ => fun
  | [d] => { results := [.lit (.bool false)], args := [d] }
  | _ => none }
def SurdRootsWrongFalsely : Prop := surdRootsRow.holds Tryz.pinned (OpenSpec.ofChange surdRootsWrong)

/-- 'klippelaw03.SurdAdds': WHATEVER THE INPUT: true; the input reads as it did. -/
def surdAddsSpec : ChangeSpec := { name := "surdAdds", fn := fun _ => fun
  | [d1, d2] => { results := [.lit (.bool true)], args := [d1, d2] }
  | _ => none }
def surdAddsRow : OpenClaim := { program := "ytpphjnekkjeacaagreatdoor", sum := "f58f116a08765f2ef45b8b90c425de42f5709fea97aaddce53951d48f9584c79", func := "klippe/klippelaw03.SurdAdds", spec := "surdAdds", inPlace := ["internal/bytealg.IndexByteString", "internal/bytealg.IndexString", "internal/bytealg.abigen_runtime_cmpstring", "internal/abi.NoEscape", "internal/bytealg.MakeNoZero"], unfollowed := true, recurses := true, named := ["internal/bytealg.MaxLen", "strconv.ErrSyntax", "strconv.ErrRange", "internal/strconv.uint64pow10", "math/bits.deBruijn32tab", "math/bits.deBruijn64tab", "klippe/roots.primes"], apart := false, laid := [("math/bits.deBruijn32tab", laid_math_bits_deBruijn32tab), ("math/bits.deBruijn64tab", laid_math_bits_deBruijn64tab), ("internal/strconv.uint64pow10", laid_internal_strconv_uint64pow10), ("strconv.ErrRange", laid_strconv_ErrRange), ("strconv.ErrSyntax", laid_strconv_ErrSyntax), ("klippe/roots.primes", laid_klippe_roots_primes)] }
def SurdAddsSaid : Prop := surdAddsRow.holds Tryz.pinned (OpenSpec.ofChange surdAddsSpec)

/-- ITS FALSE NEIGHBOUR: 'it returns false'. Refute it at one input. -/
def surdAddsWrong : ChangeSpec := { name := "surdAdds", fn := fun _ => fun
  | [d1, d2] => { results := [.lit (.bool false)], args := [d1, d2] }
  | _ => none }
def SurdAddsWrongFalsely : Prop := surdAddsRow.holds Tryz.pinned (OpenSpec.ofChange surdAddsWrong)

/-- 'klippelaw03.SurdScales': WHATEVER THE INPUT: true; the input reads as it did. -/
def surdScalesSpec : ChangeSpec := { name := "surdScales", fn := fun _ => fun
  | [d1, d2] => { results := [.lit (.bool true)], args := [d1, d2] }
  | _ => none }
def surdScalesRow : OpenClaim := { program := "ytpphjnekkjeacaagreatdoor", sum := "f58f116a08765f2ef45b8b90c425de42f5709fea97aaddce53951d48f9584c79", func := "klippe/klippelaw03.SurdScales", spec := "surdScales", inPlace := ["internal/bytealg.IndexByteString", "internal/bytealg.IndexString", "internal/bytealg.abigen_runtime_cmpstring", "internal/abi.NoEscape", "internal/bytealg.MakeNoZero"], unfollowed := true, recurses := true, named := ["internal/bytealg.MaxLen", "strconv.ErrSyntax", "strconv.ErrRange", "internal/strconv.uint64pow10", "math/bits.deBruijn32tab", "math/bits.deBruijn64tab", "klippe/roots.primes"], apart := false, laid := [("math/bits.deBruijn32tab", laid_math_bits_deBruijn32tab), ("math/bits.deBruijn64tab", laid_math_bits_deBruijn64tab), ("internal/strconv.uint64pow10", laid_internal_strconv_uint64pow10), ("strconv.ErrRange", laid_strconv_ErrRange), ("strconv.ErrSyntax", laid_strconv_ErrSyntax), ("klippe/roots.primes", laid_klippe_roots_primes)] }
def SurdScalesSaid : Prop := surdScalesRow.holds Tryz.pinned (OpenSpec.ofChange surdScalesSpec)

/-- ITS FALSE NEIGHBOUR: 'it returns false'. Refute it at one input. -/
def surdScalesWrong : ChangeSpec := { name := "surdScales", fn := fun _ => fun
  | [d1, d2] => { results := [.lit (.bool false)], args := [d1, d2] }
  | _ => none }
def SurdScalesWrongFalsely : Prop := surdScalesRow.holds Tryz.pinned (OpenSpec.ofChange surdScalesWrong)

/-- 'klippelaw03.SurdSigns': WHATEVER THE INPUT: true; the input reads as it did. -/
def surdSignsSpec : ChangeSpec := { name := "surdSigns", fn := fun _ => fun
  | [d1, d2] => { results := [.lit (.bool true)], args := [d1, d2] }
  | _ => none }
def surdSignsRow : OpenClaim := { program := "ytpphjnekkjeacaagreatdoor", sum := "f58f116a08765f2ef45b8b90c425de42f5709fea97aaddce53951d48f9584c79", func := "klippe/klippelaw03.SurdSigns", spec := "surdSigns", inPlace := ["internal/bytealg.IndexByteString", "internal/bytealg.IndexString", "internal/bytealg.abigen_runtime_cmpstring", "internal/abi.NoEscape", "internal/bytealg.MakeNoZero"], unfollowed := true, recurses := true, named := ["internal/bytealg.MaxLen", "strconv.ErrSyntax", "strconv.ErrRange", "internal/strconv.uint64pow10", "math/bits.deBruijn32tab", "math/bits.deBruijn64tab", "klippe/roots.primes"], apart := false, laid := [("math/bits.deBruijn32tab", laid_math_bits_deBruijn32tab), ("math/bits.deBruijn64tab", laid_math_bits_deBruijn64tab), ("internal/strconv.uint64pow10", laid_internal_strconv_uint64pow10), ("strconv.ErrRange", laid_strconv_ErrRange), ("strconv.ErrSyntax", laid_strconv_ErrSyntax), ("klippe/roots.primes", laid_klippe_roots_primes)] }
def SurdSignsSaid : Prop := surdSignsRow.holds Tryz.pinned (OpenSpec.ofChange surdSignsSpec)

/-- ITS FALSE NEIGHBOUR: 'it returns false'. Refute it at one input. -/
def surdSignsWrong : ChangeSpec := { name := "surdSigns", fn := fun _ => fun
  | [d1, d2] => { results := [.lit (.bool false)], args := [d1, d2] }
  | _ => none }
def SurdSignsWrongFalsely : Prop := surdSignsRow.holds Tryz.pinned (OpenSpec.ofChange surdSignsWrong)

/-- 'klippelaw03.SurdNear': WHATEVER THE INPUT: true; the input reads as it did. -/
def surdNearSpec : ChangeSpec := { name := "surdNear", fn := fun _ => fun
  | [d] => { results := [.lit (.bool true)], args := [d] }
  | _ => none }
def surdNearRow : OpenClaim := { program := "ytpphjnekkjeacaagreatdoor", sum := "f58f116a08765f2ef45b8b90c425de42f5709fea97aaddce53951d48f9584c79", func := "klippe/klippelaw03.SurdNear", spec := "surdNear", inPlace := ["internal/bytealg.IndexByteString", "internal/bytealg.IndexString", "internal/bytealg.abigen_runtime_cmpstring", "internal/abi.NoEscape", "internal/bytealg.MakeNoZero"], unfollowed := true, recurses := true, named := ["internal/bytealg.MaxLen", "strconv.ErrSyntax", "strconv.ErrRange", "internal/strconv.uint64pow10", "math/bits.deBruijn32tab", "math/bits.deBruijn64tab", "klippe/roots.primes"], apart := false, laid := [("math/bits.deBruijn32tab", laid_math_bits_deBruijn32tab), ("math/bits.deBruijn64tab", laid_math_bits_deBruijn64tab), ("internal/strconv.uint64pow10", laid_internal_strconv_uint64pow10), ("strconv.ErrRange", laid_strconv_ErrRange), ("strconv.ErrSyntax", laid_strconv_ErrSyntax), ("klippe/roots.primes", laid_klippe_roots_primes)] }
def SurdNearSaid : Prop := surdNearRow.holds Tryz.pinned (OpenSpec.ofChange surdNearSpec)

/-- ITS FALSE NEIGHBOUR: 'it returns false'. Refute it at one input. -/
def surdNearWrong : ChangeSpec := { name := "surdNear", fn := fun _ => fun
  | [d] => { results := [.lit (.bool false)], args := [d] }
  | _ => none }
def SurdNearWrongFalsely : Prop := surdNearRow.holds Tryz.pinned (OpenSpec.ofChange surdNearWrong)

/-- 'klippelaw03.SurdRationals': WHATEVER THE INPUT: true; the input reads as it did. -/
def surdRationalsSpec : ChangeSpec := { name := "surdRationals", fn := fun _ => fun
  | [d] => { results := [.lit (.bool true)], args := [d] }
  | _ => none }
def surdRationalsRow : OpenClaim := { program := "ytpphjnekkjeacaagreatdoor", sum := "f58f116a08765f2ef45b8b90c425de42f5709fea97aaddce53951d48f9584c79", func := "klippe/klippelaw03.SurdRationals", spec := "surdRationals", inPlace := ["internal/bytealg.IndexByteString", "internal/bytealg.IndexString", "internal/bytealg.abigen_runtime_cmpstring", "internal/abi.NoEscape", "internal/bytealg.MakeNoZero"], unfollowed := true, recurses := true, named := ["internal/bytealg.MaxLen", "strconv.ErrSyntax", "strconv.ErrRange", "internal/strconv.uint64pow10", "math/bits.deBruijn32tab", "math/bits.deBruijn64tab", "klippe/roots.primes"], apart := false, laid := [("math/bits.deBruijn32tab", laid_math_bits_deBruijn32tab), ("math/bits.deBruijn64tab", laid_math_bits_deBruijn64tab), ("internal/strconv.uint64pow10", laid_internal_strconv_uint64pow10), ("strconv.ErrRange", laid_strconv_ErrRange), ("strconv.ErrSyntax", laid_strconv_ErrSyntax), ("klippe/roots.primes", laid_klippe_roots_primes)] }
def SurdRationalsSaid : Prop := surdRationalsRow.holds Tryz.pinned (OpenSpec.ofChange surdRationalsSpec)

/-- ITS FALSE NEIGHBOUR: 'it returns false'. Refute it at one input. -/
def surdRationalsWrong : ChangeSpec := { name := "surdRationals", fn := fun _ => fun
  | [d] => { results := [.lit (.bool false)], args := [d] }
  | _ => none }
def SurdRationalsWrongFalsely : Prop := surdRationalsRow.holds Tryz.pinned (OpenSpec.ofChange surdRationalsWrong)

/-- 'klippelaw03.SurdBounds': WHATEVER THE INPUT: true; the input reads as it did. -/
def surdBoundsSpec : ChangeSpec := { name := "surdBounds", fn := fun _ => fun
  | [d1, d2] => { results := [.lit (.bool true)], args := [d1, d2] }
  | _ => none }
def surdBoundsRow : OpenClaim := { program := "ytpphjnekkjeacaagreatdoor", sum := "f58f116a08765f2ef45b8b90c425de42f5709fea97aaddce53951d48f9584c79", func := "klippe/klippelaw03.SurdBounds", spec := "surdBounds", inPlace := ["internal/bytealg.IndexByteString", "internal/bytealg.IndexString", "internal/bytealg.abigen_runtime_cmpstring", "internal/abi.NoEscape", "internal/bytealg.MakeNoZero"], unfollowed := true, recurses := true, named := ["internal/bytealg.MaxLen", "strconv.ErrSyntax", "strconv.ErrRange", "internal/strconv.uint64pow10", "math/bits.deBruijn32tab", "math/bits.deBruijn64tab", "klippe/roots.primes"], apart := false, laid := [("math/bits.deBruijn32tab", laid_math_bits_deBruijn32tab), ("math/bits.deBruijn64tab", laid_math_bits_deBruijn64tab), ("internal/strconv.uint64pow10", laid_internal_strconv_uint64pow10), ("strconv.ErrRange", laid_strconv_ErrRange), ("strconv.ErrSyntax", laid_strconv_ErrSyntax), ("klippe/roots.primes", laid_klippe_roots_primes)] }
def SurdBoundsSaid : Prop := surdBoundsRow.holds Tryz.pinned (OpenSpec.ofChange surdBoundsSpec)

/-- ITS FALSE NEIGHBOUR: 'it returns false'. Refute it at one input. -/
def surdBoundsWrong : ChangeSpec := { name := "surdBounds", fn := fun _ => fun
  | [d1, d2] => { results := [.lit (.bool false)], args := [d1, d2] }
  | _ => none }
def SurdBoundsWrongFalsely : Prop := surdBoundsRow.holds Tryz.pinned (OpenSpec.ofChange surdBoundsWrong)

/-- 'klippelaw03.SurdTexts': WHATEVER THE INPUT: true; the input reads as it did. -/
def surdTextsSpec : ChangeSpec := { name := "surdTexts", fn := fun _ => fun
  | [d] => { results := [.lit (.bool true)], args := [d] }
  | _ => none }
def surdTextsRow : OpenClaim := { program := "ytpphjnekkjeacaagreatdoor", sum := "f58f116a08765f2ef45b8b90c425de42f5709fea97aaddce53951d48f9584c79", func := "klippe/klippelaw03.SurdTexts", spec := "surdTexts", inPlace := ["internal/bytealg.IndexByteString", "internal/bytealg.IndexString", "internal/bytealg.abigen_runtime_cmpstring", "internal/abi.NoEscape", "internal/bytealg.MakeNoZero"], unfollowed := true, recurses := true, named := ["internal/bytealg.MaxLen", "strconv.ErrSyntax", "strconv.ErrRange", "internal/strconv.uint64pow10", "math/bits.deBruijn32tab", "math/bits.deBruijn64tab", "klippe/roots.primes"], apart := false, laid := [("math/bits.deBruijn32tab", laid_math_bits_deBruijn32tab), ("math/bits.deBruijn64tab", laid_math_bits_deBruijn64tab), ("internal/strconv.uint64pow10", laid_internal_strconv_uint64pow10), ("strconv.ErrRange", laid_strconv_ErrRange), ("strconv.ErrSyntax", laid_strconv_ErrSyntax), ("klippe/roots.primes", laid_klippe_roots_primes)] }
def SurdTextsSaid : Prop := surdTextsRow.holds Tryz.pinned (OpenSpec.ofChange surdTextsSpec)

/-- ITS FALSE NEIGHBOUR: 'it returns false'. Refute it at one input. -/
def surdTextsWrong : ChangeSpec := { name := "surdTexts", fn := fun _ => fun
  | [d] => { results := [.lit (.bool false)], args := [d] }
  | _ => none }
def SurdTextsWrongFalsely : Prop := surdTextsRow.holds Tryz.pinned (OpenSpec.ofChange surdTextsWrong)

/-- 'klippelaw03.SurdSquares': WHATEVER THE INPUT: true; the input reads as it did. -/
def surdSquaresSpec : ChangeSpec := { name := "surdSquares", fn := fun _ => fun
  | [d1, d2] => { results := [.lit (.bool true)], args := [d1, d2] }
  | _ => none }
def surdSquaresRow : OpenClaim := { program := "ytpphjnekkjeacaagreatdoor", sum := "f58f116a08765f2ef45b8b90c425de42f5709fea97aaddce53951d48f9584c79", func := "klippe/klippelaw03.SurdSquares", spec := "surdSquares", inPlace := ["internal/bytealg.IndexByteString", "internal/bytealg.IndexString", "internal/bytealg.abigen_runtime_cmpstring", "internal/abi.NoEscape", "internal/bytealg.MakeNoZero"], unfollowed := true, recurses := true, named := ["internal/bytealg.MaxLen", "strconv.ErrSyntax", "strconv.ErrRange", "internal/strconv.uint64pow10", "math/bits.deBruijn32tab", "math/bits.deBruijn64tab", "klippe/roots.primes"], apart := false, laid := [("math/bits.deBruijn32tab", laid_math_bits_deBruijn32tab), ("math/bits.deBruijn64tab", laid_math_bits_deBruijn64tab), ("internal/strconv.uint64pow10", laid_internal_strconv_uint64pow10), ("strconv.ErrRange", laid_strconv_ErrRange), ("strconv.ErrSyntax", laid_strconv_ErrSyntax), ("klippe/roots.primes", laid_klippe_roots_primes)] }
def SurdSquaresSaid : Prop := surdSquaresRow.holds Tryz.pinned (OpenSpec.ofChange surdSquaresSpec)

/-- ITS FALSE NEIGHBOUR: 'it returns false'. Refute it at one input. -/
def surdSquaresWrong : ChangeSpec := { name := "surdSquares", fn := fun _ => fun
  | [d1, d2] => { results := [.lit (.bool false)], args := [d1, d2] }
  | _ => none }
def SurdSquaresWrongFalsely : Prop := surdSquaresRow.holds Tryz.pinned (OpenSpec.ofChange surdSquaresWrong)

/-- 'klippelaw03.SurdLaws': WHATEVER THE INPUT: true; the input reads as it did. -/
def surdLawsSpec : ChangeSpec := { name := "surdLaws", fn := fun _ => fun
  | [d1, d2, d3] => { results := [.lit (.bool true)], args := [d1, d2, d3] }
  | _ => none }
def surdLawsRow : OpenClaim := { program := "ytpphjnekkjeacaagreatdoor", sum := "f58f116a08765f2ef45b8b90c425de42f5709fea97aaddce53951d48f9584c79", func := "klippe/klippelaw03.SurdLaws", spec := "surdLaws", inPlace := ["internal/bytealg.IndexByteString", "internal/bytealg.IndexString", "internal/bytealg.abigen_runtime_cmpstring", "internal/abi.NoEscape", "internal/bytealg.MakeNoZero"], unfollowed := true, recurses := true, named := ["internal/bytealg.MaxLen", "strconv.ErrSyntax", "strconv.ErrRange", "internal/strconv.uint64pow10", "math/bits.deBruijn32tab", "math/bits.deBruijn64tab", "klippe/roots.primes"], apart := false, laid := [("math/bits.deBruijn32tab", laid_math_bits_deBruijn32tab), ("math/bits.deBruijn64tab", laid_math_bits_deBruijn64tab), ("internal/strconv.uint64pow10", laid_internal_strconv_uint64pow10), ("strconv.ErrRange", laid_strconv_ErrRange), ("strconv.ErrSyntax", laid_strconv_ErrSyntax), ("klippe/roots.primes", laid_klippe_roots_primes)] }
def SurdLawsSaid : Prop := surdLawsRow.holds Tryz.pinned (OpenSpec.ofChange surdLawsSpec)

/-- ITS FALSE NEIGHBOUR: 'it returns false'. Refute it at one input. -/
def surdLawsWrong : ChangeSpec := { name := "surdLaws", fn := fun _ => fun
  | [d1, d2, d3] => { results := [.lit (.bool false)], args := [d1, d2, d3] }
  | _ => none }
def SurdLawsWrongFalsely : Prop := surdLawsRow.holds Tryz.pinned (OpenSpec.ofChange surdLawsWrong)

/- THE SECOND FORM. 'bulk': how many values and letters a reading holds, each counted each time it is reached (what is shared counts as often as it is met; a slice's spare places count too). A statement '..UptoSaid' is the law's where the arguments, and the package variables that the reading takes, are together of bulk at most 1048576: NARROWER than '..Said'. Prove '..Said' where nothing that the law and all that it calls make is longer than what came in: it says more and counts as full. Else prove '..UptoSaid'. A law counts once. -/
mutual
def uptoBulk {H : Type} : DataW H → Nat
  | .lit (.string bytes) => bytes.length + 1
  | .lit _ => 1
  | .nil => 1
  | .ptr d => uptoBulk d + 1
  | .slice elems spare => uptoBulkAll elems + uptoBulkAll spare + 1
  | .agg parts => uptoBulkAll parts + 1
  | .iface _ d => uptoBulk d + 1
  | .map entries => uptoBulkEntries entries + 1
  | .held _ => 1
def uptoBulkAll {H : Type} : List (DataW H) → Nat
  | [] => 0
  | d :: r => uptoBulk d + uptoBulkAll r
def uptoBulkEntries {H : Type} : List (Lit × DataW H) → Nat
  | [] => 0
  | x :: r => uptoBulkEntry x + uptoBulkEntries r
def uptoBulkEntry {H : Type} : Lit × DataW H → Nat
  | (.string bytes, d) => bytes.length + uptoBulk d + 1
  | (_, d) => uptoBulk d + 1
 end
def uptoSmall : (H : Type) → List (DataW H) → Bool := fun _ ds => decide (uptoBulkAll ds ≤ 1048576)
def OpenSpec.upto (s : _root_.Go.ChangeSpec) : _root_.Go.OpenSpec := { _root_.Go.OpenSpec.ofChange s with cond := some uptoSmall }

/-- 'klippelaw03.SurdRoots', WHERE WHAT IT READS IS OF BULK AT MOST 1048576: true; the input reads as it did. -/
def surdRootsUptoRow : OpenClaim := { program := "ytpphjnekkjeacaagreatdoor", sum := "f58f116a08765f2ef45b8b90c425de42f5709fea97aaddce53951d48f9584c79", func := "klippe/klippelaw03.SurdRoots", spec := "surdRoots", inPlace := ["internal/bytealg.IndexByteString", "internal/bytealg.IndexString", "internal/bytealg.abigen_runtime_cmpstring", "internal/abi.NoEscape", "internal/bytealg.MakeNoZero"], unfollowed := true, recurses := true, named := ["internal/bytealg.MaxLen", "strconv.ErrSyntax", "strconv.ErrRange", "internal/strconv.uint64pow10", "math/bits.deBruijn32tab", "math/bits.deBruijn64tab", "klippe/roots.primes"], apart := false, laid := [("math/bits.deBruijn32tab", laid_math_bits_deBruijn32tab), ("math/bits.deBruijn64tab", laid_math_bits_deBruijn64tab), ("internal/strconv.uint64pow10", laid_internal_strconv_uint64pow10), ("strconv.ErrRange", laid_strconv_ErrRange), ("strconv.ErrSyntax", laid_strconv_ErrSyntax), ("klippe/roots.primes", laid_klippe_roots_primes)], narrowed := true }
def SurdRootsUptoSaid : Prop := surdRootsUptoRow.holds Tryz.pinned (OpenSpec.upto surdRootsSpec)

/-- 'klippelaw03.SurdAdds', WHERE WHAT IT READS IS OF BULK AT MOST 1048576: true; the input reads as it did. -/
def surdAddsUptoRow : OpenClaim := { program := "ytpphjnekkjeacaagreatdoor", sum := "f58f116a08765f2ef45b8b90c425de42f5709fea97aaddce53951d48f9584c79", func := "klippe/klippelaw03.SurdAdds", spec := "surdAdds", inPlace := ["internal/bytealg.IndexByteString", "internal/bytealg.IndexString", "internal/bytealg.abigen_runtime_cmpstring", "internal/abi.NoEscape", "internal/bytealg.MakeNoZero"], unfollowed := true, recurses := true, named := ["internal/bytealg.MaxLen", "strconv.ErrSyntax", "strconv.ErrRange", "internal/strconv.uint64pow10", "math/bits.deBruijn32tab", "math/bits.deBruijn64tab", "klippe/roots.primes"], apart := false, laid := [("math/bits.deBruijn32tab", laid_math_bits_deBruijn32tab), ("math/bits.deBruijn64tab", laid_math_bits_deBruijn64tab), ("internal/strconv.uint64pow10", laid_internal_strconv_uint64pow10), ("strconv.ErrRange", laid_strconv_ErrRange), ("strconv.ErrSyntax", laid_strconv_ErrSyntax), ("klippe/roots.primes", laid_klippe_roots_primes)], narrowed := true }
def SurdAddsUptoSaid : Prop := surdAddsUptoRow.holds Tryz.pinned (OpenSpec.upto surdAddsSpec)

/-- 'klippelaw03.SurdScales', WHERE WHAT IT READS IS OF BULK AT MOST 1048576: true; the input reads as it did. -/
def surdScalesUptoRow : OpenClaim := { program := "ytpphjnekkjeacaagreatdoor", sum := "f58f116a08765f2ef45b8b90c425de42f5709fea97aaddce53951d48f9584c79", func := "klippe/klippelaw03.SurdScales", spec := "surdScales", inPlace := ["internal/bytealg.IndexByteString", "internal/bytealg.IndexString", "internal/bytealg.abigen_runtime_cmpstring", "internal/abi.NoEscape", "internal/bytealg.MakeNoZero"], unfollowed := true, recurses := true, named := ["internal/bytealg.MaxLen", "strconv.ErrSyntax", "strconv.ErrRange", "internal/strconv.uint64pow10", "math/bits.deBruijn32tab", "math/bits.deBruijn64tab", "klippe/roots.primes"], apart := false, laid := [("math/bits.deBruijn32tab", laid_math_bits_deBruijn32tab), ("math/bits.deBruijn64tab", laid_math_bits_deBruijn64tab), ("internal/strconv.uint64pow10", laid_internal_strconv_uint64pow10), ("strconv.ErrRange", laid_strconv_ErrRange), ("strconv.ErrSyntax", laid_strconv_ErrSyntax), ("klippe/roots.primes", laid_klippe_roots_primes)], narrowed := true }
def SurdScalesUptoSaid : Prop := surdScalesUptoRow.holds Tryz.pinned (OpenSpec.upto surdScalesSpec)

/-- 'klippelaw03.SurdSigns', WHERE WHAT IT READS IS OF BULK AT MOST 1048576: true; the input reads as it did. -/
def surdSignsUptoRow : OpenClaim := { program := "ytpphjnekkjeacaagreatdoor", sum := "f58f116a08765f2ef45b8b90c425de42f5709fea97aaddce53951d48f9584c79", func := "klippe/klippelaw03.SurdSigns", spec := "surdSigns", inPlace := ["internal/bytealg.IndexByteString", "internal/bytealg.IndexString", "internal/bytealg.abigen_runtime_cmpstring", "internal/abi.NoEscape", "internal/bytealg.MakeNoZero"], unfollowed := true, recurses := true, named := ["internal/bytealg.MaxLen", "strconv.ErrSyntax", "strconv.ErrRange", "internal/strconv.uint64pow10", "math/bits.deBruijn32tab", "math/bits.deBruijn64tab", "klippe/roots.primes"], apart := false, laid := [("math/bits.deBruijn32tab", laid_math_bits_deBruijn32tab), ("math/bits.deBruijn64tab", laid_math_bits_deBruijn64tab), ("internal/strconv.uint64pow10", laid_internal_strconv_uint64pow10), ("strconv.ErrRange", laid_strconv_ErrRange), ("strconv.ErrSyntax", laid_strconv_ErrSyntax), ("klippe/roots.primes", laid_klippe_roots_primes)], narrowed := true }
def SurdSignsUptoSaid : Prop := surdSignsUptoRow.holds Tryz.pinned (OpenSpec.upto surdSignsSpec)

/-- 'klippelaw03.SurdNear', WHERE WHAT IT READS IS OF BULK AT MOST 1048576: true; the input reads as it did. -/
def surdNearUptoRow : OpenClaim := { program := "ytpphjnekkjeacaagreatdoor", sum := "f58f116a08765f2ef45b8b90c425de42f5709fea97aaddce53951d48f9584c79", func := "klippe/klippelaw03.SurdNear", spec := "surdNear", inPlace := ["internal/bytealg.IndexByteString", "internal/bytealg.IndexString", "internal/bytealg.abigen_runtime_cmpstring", "internal/abi.NoEscape", "internal/bytealg.MakeNoZero"], unfollowed := true, recurses := true, named := ["internal/bytealg.MaxLen", "strconv.ErrSyntax", "strconv.ErrRange", "internal/strconv.uint64pow10", "math/bits.deBruijn32tab", "math/bits.deBruijn64tab", "klippe/roots.primes"], apart := false, laid := [("math/bits.deBruijn32tab", laid_math_bits_deBruijn32tab), ("math/bits.deBruijn64tab", laid_math_bits_deBruijn64tab), ("internal/strconv.uint64pow10", laid_internal_strconv_uint64pow10), ("strconv.ErrRange", laid_strconv_ErrRange), ("strconv.ErrSyntax", laid_strconv_ErrSyntax), ("klippe/roots.primes", laid_klippe_roots_primes)], narrowed := true }
def SurdNearUptoSaid : Prop := surdNearUptoRow.holds Tryz.pinned (OpenSpec.upto surdNearSpec)

/-- 'klippelaw03.SurdRationals', WHERE WHAT IT READS IS OF BULK AT MOST 1048576: true; the input reads as it did. -/
def surdRationalsUptoRow : OpenClaim := { program := "ytpphjnekkjeacaagreatdoor", sum := "f58f116a08765f2ef45b8b90c425de42f5709fea97aaddce53951d48f9584c79", func := "klippe/klippelaw03.SurdRationals", spec := "surdRationals", inPlace := ["internal/bytealg.IndexByteString", "internal/bytealg.IndexString", "internal/bytealg.abigen_runtime_cmpstring", "internal/abi.NoEscape", "internal/bytealg.MakeNoZero"], unfollowed := true, recurses := true, named := ["internal/bytealg.MaxLen", "strconv.ErrSyntax", "strconv.ErrRange", "internal/strconv.uint64pow10", "math/bits.deBruijn32tab", "math/bits.deBruijn64tab", "klippe/roots.primes"], apart := false, laid := [("math/bits.deBruijn32tab", laid_math_bits_deBruijn32tab), ("math/bits.deBruijn64tab", laid_math_bits_deBruijn64tab), ("internal/strconv.uint64pow10", laid_internal_strconv_uint64pow10), ("strconv.ErrRange", laid_strconv_ErrRange), ("strconv.ErrSyntax", laid_strconv_ErrSyntax), ("klippe/roots.primes", laid_klippe_roots_primes)], narrowed := true }
def SurdRationalsUptoSaid : Prop := surdRationalsUptoRow.holds Tryz.pinned (OpenSpec.upto surdRationalsSpec)

/-- 'klippelaw03.SurdBounds', WHERE WHAT IT READS IS OF BULK AT MOST 1048576: true; the input reads as it did. -/
def surdBoundsUptoRow : OpenClaim := { program := "ytpphjnekkjeacaagreatdoor", sum := "f58f116a08765f2ef45b8b90c425de42f5709fea97aaddce53951d48f9584c79", func := "klippe/klippelaw03.SurdBounds", spec := "surdBounds", inPlace := ["internal/bytealg.IndexByteString", "internal/bytealg.IndexString", "internal/bytealg.abigen_runtime_cmpstring", "internal/abi.NoEscape", "internal/bytealg.MakeNoZero"], unfollowed := true, recurses := true, named := ["internal/bytealg.MaxLen", "strconv.ErrSyntax", "strconv.ErrRange", "internal/strconv.uint64pow10", "math/bits.deBruijn32tab", "math/bits.deBruijn64tab", "klippe/roots.primes"], apart := false, laid := [("math/bits.deBruijn32tab", laid_math_bits_deBruijn32tab), ("math/bits.deBruijn64tab", laid_math_bits_deBruijn64tab), ("internal/strconv.uint64pow10", laid_internal_strconv_uint64pow10), ("strconv.ErrRange", laid_strconv_ErrRange), ("strconv.ErrSyntax", laid_strconv_ErrSyntax), ("klippe/roots.primes", laid_klippe_roots_primes)], narrowed := true }
def SurdBoundsUptoSaid : Prop := surdBoundsUptoRow.holds Tryz.pinned (OpenSpec.upto surdBoundsSpec)

/-- 'klippelaw03.SurdTexts', WHERE WHAT IT READS IS OF BULK AT MOST 1048576: true; the input reads as it did. -/
def surdTextsUptoRow : OpenClaim := { program := "ytpphjnekkjeacaagreatdoor", sum := "f58f116a08765f2ef45b8b90c425de42f5709fea97aaddce53951d48f9584c79", func := "klippe/klippelaw03.SurdTexts", spec := "surdTexts", inPlace := ["internal/bytealg.IndexByteString", "internal/bytealg.IndexString", "internal/bytealg.abigen_runtime_cmpstring", "internal/abi.NoEscape", "internal/bytealg.MakeNoZero"], unfollowed := true, recurses := true, named := ["internal/bytealg.MaxLen", "strconv.ErrSyntax", "strconv.ErrRange", "internal/strconv.uint64pow10", "math/bits.deBruijn32tab", "math/bits.deBruijn64tab", "klippe/roots.primes"], apart := false, laid := [("math/bits.deBruijn32tab", laid_math_bits_deBruijn32tab), ("math/bits.deBruijn64tab", laid_math_bits_deBruijn64tab), ("internal/strconv.uint64pow10", laid_internal_strconv_uint64pow10), ("strconv.ErrRange", laid_strconv_ErrRange), ("strconv.ErrSyntax", laid_strconv_ErrSyntax), ("klippe/roots.primes", laid_klippe_roots_primes)], narrowed := true }
def SurdTextsUptoSaid : Prop := surdTextsUptoRow.holds Tryz.pinned (OpenSpec.upto surdTextsSpec)

/-- 'klippelaw03.SurdSquares', WHERE WHAT IT READS IS OF BULK AT MOST 1048576: true; the input reads as it did. -/
def surdSquaresUptoRow : OpenClaim := { program := "ytpphjnekkjeacaagreatdoor", sum := "f58f116a08765f2ef45b8b90c425de42f5709fea97aaddce53951d48f9584c79", func := "klippe/klippelaw03.SurdSquares", spec := "surdSquares", inPlace := ["internal/bytealg.IndexByteString", "internal/bytealg.IndexString", "internal/bytealg.abigen_runtime_cmpstring", "internal/abi.NoEscape", "internal/bytealg.MakeNoZero"], unfollowed := true, recurses := true, named := ["internal/bytealg.MaxLen", "strconv.ErrSyntax", "strconv.ErrRange", "internal/strconv.uint64pow10", "math/bits.deBruijn32tab", "math/bits.deBruijn64tab", "klippe/roots.primes"], apart := false, laid := [("math/bits.deBruijn32tab", laid_math_bits_deBruijn32tab), ("math/bits.deBruijn64tab", laid_math_bits_deBruijn64tab), ("internal/strconv.uint64pow10", laid_internal_strconv_uint64pow10), ("strconv.ErrRange", laid_strconv_ErrRange), ("strconv.ErrSyntax", laid_strconv_ErrSyntax), ("klippe/roots.primes", laid_klippe_roots_primes)], narrowed := true }
def SurdSquaresUptoSaid : Prop := surdSquaresUptoRow.holds Tryz.pinned (OpenSpec.upto surdSquaresSpec)

/-- 'klippelaw03.SurdLaws', WHERE WHAT IT READS IS OF BULK AT MOST 1048576: true; the input reads as it did. -/
def surdLawsUptoRow : OpenClaim := { program := "ytpphjnekkjeacaagreatdoor", sum := "f58f116a08765f2ef45b8b90c425de42f5709fea97aaddce53951d48f9584c79", func := "klippe/klippelaw03.SurdLaws", spec := "surdLaws", inPlace := ["internal/bytealg.IndexByteString", "internal/bytealg.IndexString", "internal/bytealg.abigen_runtime_cmpstring", "internal/abi.NoEscape", "internal/bytealg.MakeNoZero"], unfollowed := true, recurses := true, named := ["internal/bytealg.MaxLen", "strconv.ErrSyntax", "strconv.ErrRange", "internal/strconv.uint64pow10", "math/bits.deBruijn32tab", "math/bits.deBruijn64tab", "klippe/roots.primes"], apart := false, laid := [("math/bits.deBruijn32tab", laid_math_bits_deBruijn32tab), ("math/bits.deBruijn64tab", laid_math_bits_deBruijn64tab), ("internal/strconv.uint64pow10", laid_internal_strconv_uint64pow10), ("strconv.ErrRange", laid_strconv_ErrRange), ("strconv.ErrSyntax", laid_strconv_ErrSyntax), ("klippe/roots.primes", laid_klippe_roots_primes)], narrowed := true }
def SurdLawsUptoSaid : Prop := surdLawsUptoRow.holds Tryz.pinned (OpenSpec.upto surdLawsSpec)

end Rows
end Go.Proofs.YtpphjnekkjeacaaGreatDoor
