/-
  NARROWER THAN 'FOR EVERY INPUT', by the rows' own cells (each row's printed sentence says how): AttitudePlanes: laid · AttitudeDirections: laid · AttitudeCompass: laid · AttitudeOrders: laid · AttitudeGradients: laid · AttitudeHeights: laid · AttitudeFalls: laid · AttitudeTurns: laid.
  DERIVED. THE GIVEN ROWS OF THIS SEAT. 8 by the template 'for every input the law returns true; each argument reads behind the call as it read before'; 0 by the template 'total and deterministic' (their statements: YtejfiegmdllfbaaGreatDoorTotals.lean).
  GIVEN WITH THE SEED: the statements are not yours to turn. If you find one false, say at which input.
  Laid BY PROGRAM, IN A SANDBOX (cutbox-rows.mjs): the forced cells as the released guide's own fill.sh prints them over the translation eabdfd2c3dedb5e0… (all of the seat's roots in one cut). By AI agents, Wed Nov 11 2026. No macro, syntax, notation, axiom, sorry.
-/
import Derived.Test.YtejfiegmdllfbaaGreatDoorChecked
import GoSem.Claim
import GoSem.ClaimJoined
import GoSem.ClaimMapViews
import Derived.JoinedTies
import Derived.KernelRfl
namespace Go.Proofs.YtejfiegmdllfbaaGreatDoor
/- THE CELL 'sum', in the pinned program and in every row, IS THE sha256 OF THE DUMP (.gsa) THAT YtejfiegmdllfbaaGreatDoorProg.lean LOADS. Nothing in Lean hashes anything: it is a label: what it is worth is what the hold of that sum in a sandbox is worth. -/
noncomputable def Tryz.pinned : Pinned := { name := "ytejfiegmdllfbaagreatdoor", sum := "eabdfd2c3dedb5e0afaaa810673ee5dcf52720d10e84c607473db17503e9158f", checked := Tryz.checked }
namespace Rows
def none {H : Type} : Left H := { results := [], args := [] }

/- WHAT THE LISTED PACKAGE-LEVEL VARIABLES READ AS WHEN THE CALL BEGINS. Each datum BY PROGRAM (the guide's laid-datum.mjs) off the statement by which the dump's own 'gosem.cut.vars' lays the variable. In a bare row this is a premise. The card (YtejfiegmdllfbaaGreatDoorCards.lean) ties it to the program's text. -/
def laid_math_bits_deBruijn32tab {H : Type} : DataW H := .agg [.lit (.int .u8 0), .lit (.int .u8 1), .lit (.int .u8 28), .lit (.int .u8 2), .lit (.int .u8 29), .lit (.int .u8 14), .lit (.int .u8 24), .lit (.int .u8 3), .lit (.int .u8 30), .lit (.int .u8 22), .lit (.int .u8 20), .lit (.int .u8 15), .lit (.int .u8 25), .lit (.int .u8 17), .lit (.int .u8 4), .lit (.int .u8 8), .lit (.int .u8 31), .lit (.int .u8 27), .lit (.int .u8 13), .lit (.int .u8 23), .lit (.int .u8 21), .lit (.int .u8 19), .lit (.int .u8 16), .lit (.int .u8 7), .lit (.int .u8 26), .lit (.int .u8 12), .lit (.int .u8 18), .lit (.int .u8 6), .lit (.int .u8 11), .lit (.int .u8 5), .lit (.int .u8 10), .lit (.int .u8 9)]
def laid_math_bits_deBruijn64tab {H : Type} : DataW H := .agg [.lit (.int .u8 0), .lit (.int .u8 1), .lit (.int .u8 56), .lit (.int .u8 2), .lit (.int .u8 57), .lit (.int .u8 49), .lit (.int .u8 28), .lit (.int .u8 3), .lit (.int .u8 61), .lit (.int .u8 58), .lit (.int .u8 42), .lit (.int .u8 50), .lit (.int .u8 38), .lit (.int .u8 29), .lit (.int .u8 17), .lit (.int .u8 4), .lit (.int .u8 62), .lit (.int .u8 47), .lit (.int .u8 59), .lit (.int .u8 36), .lit (.int .u8 45), .lit (.int .u8 43), .lit (.int .u8 51), .lit (.int .u8 22), .lit (.int .u8 53), .lit (.int .u8 39), .lit (.int .u8 33), .lit (.int .u8 30), .lit (.int .u8 24), .lit (.int .u8 18), .lit (.int .u8 12), .lit (.int .u8 5), .lit (.int .u8 63), .lit (.int .u8 55), .lit (.int .u8 48), .lit (.int .u8 27), .lit (.int .u8 60), .lit (.int .u8 41), .lit (.int .u8 37), .lit (.int .u8 16), .lit (.int .u8 46), .lit (.int .u8 35), .lit (.int .u8 44), .lit (.int .u8 21), .lit (.int .u8 52), .lit (.int .u8 32), .lit (.int .u8 23), .lit (.int .u8 11), .lit (.int .u8 54), .lit (.int .u8 26), .lit (.int .u8 40), .lit (.int .u8 15), .lit (.int .u8 34), .lit (.int .u8 20), .lit (.int .u8 31), .lit (.int .u8 10), .lit (.int .u8 25), .lit (.int .u8 14), .lit (.int .u8 19), .lit (.int .u8 9), .lit (.int .u8 13), .lit (.int .u8 8), .lit (.int .u8 7), .lit (.int .u8 6)]
def laid_internal_strconv_uint64pow10 {H : Type} : DataW H := .agg [.lit (.int .u64 1), .lit (.int .u64 10), .lit (.int .u64 100), .lit (.int .u64 1000), .lit (.int .u64 10000), .lit (.int .u64 100000), .lit (.int .u64 1000000), .lit (.int .u64 10000000), .lit (.int .u64 100000000), .lit (.int .u64 1000000000), .lit (.int .u64 10000000000), .lit (.int .u64 100000000000), .lit (.int .u64 1000000000000), .lit (.int .u64 10000000000000), .lit (.int .u64 100000000000000), .lit (.int .u64 1000000000000000), .lit (.int .u64 10000000000000000), .lit (.int .u64 100000000000000000), .lit (.int .u64 1000000000000000000), .lit (.int .u64 10000000000000000000)]
def laid_strconv_ErrRange {H : Type} : DataW H := .iface "*errors.errorString" (.ptr (.agg [.lit (.string [118, 97, 108, 117, 101, 32, 111, 117, 116, 32, 111, 102, 32, 114, 97, 110, 103, 101])]))
def laid_strconv_ErrSyntax {H : Type} : DataW H := .iface "*errors.errorString" (.ptr (.agg [.lit (.string [105, 110, 118, 97, 108, 105, 100, 32, 115, 121, 110, 116, 97, 120])]))
def laid_klippe_vector_zero {H : Type} : DataW H := .agg [.lit (.string [48]), .lit (.string [48]), .lit (.string [48])]

/-- 'klippelaw15.AttitudePlanes': WHATEVER THE INPUT: true; the input reads as it did. -/
def attitudePlanesSpec : ChangeSpec := { name := "attitudePlanes", fn := fun _ => fun
  | [d] => { results := [.lit (.bool true)], args := [d] }
  | _ => none }
def attitudePlanesRow : OpenClaim := { program := "ytejfiegmdllfbaagreatdoor", sum := "eabdfd2c3dedb5e0afaaa810673ee5dcf52720d10e84c607473db17503e9158f", func := "klippe/klippelaw15.AttitudePlanes", spec := "attitudePlanes", inPlace := ["internal/bytealg.IndexByteString", "internal/bytealg.IndexString", "internal/bytealg.abigen_runtime_cmpstring", "math/bits.Add64"], unfollowed := true, recurses := true, named := ["internal/strconv.uint64pow10", "math/bits.deBruijn32tab", "math/bits.deBruijn64tab", "internal/bytealg.MaxLen", "strconv.ErrSyntax", "strconv.ErrRange", "klippe/vector.zero", "math/bits.divideError", "math/bits.overflowError"], apart := false, laid := [("math/bits.deBruijn32tab", laid_math_bits_deBruijn32tab), ("math/bits.deBruijn64tab", laid_math_bits_deBruijn64tab), ("internal/strconv.uint64pow10", laid_internal_strconv_uint64pow10), ("strconv.ErrRange", laid_strconv_ErrRange), ("strconv.ErrSyntax", laid_strconv_ErrSyntax), ("klippe/vector.zero", laid_klippe_vector_zero)] }
def AttitudePlanesSaid : Prop := attitudePlanesRow.holds Tryz.pinned (OpenSpec.ofChange attitudePlanesSpec)

/-- ITS FALSE NEIGHBOUR: 'it returns false'. Refute it at one input. -/
def attitudePlanesWrong : ChangeSpec := { name := "attitudePlanes", fn := fun _ => fun
  | [d] => { results := [.lit (.bool false)], args := [d] }
  | _ => none }
def AttitudePlanesWrongFalsely : Prop := attitudePlanesRow.holds Tryz.pinned (OpenSpec.ofChange attitudePlanesWrong)

/-- 'klippelaw15.AttitudeDirections': WHATEVER THE INPUT: true; the input reads as it did. -/
def attitudeDirectionsSpec : ChangeSpec := { name := "attitudeDirections", fn := fun _ => fun
  | [d] => { results := [.lit (.bool true)], args := [d] }
  | _ => none }
def attitudeDirectionsRow : OpenClaim := { program := "ytejfiegmdllfbaagreatdoor", sum := "eabdfd2c3dedb5e0afaaa810673ee5dcf52720d10e84c607473db17503e9158f", func := "klippe/klippelaw15.AttitudeDirections", spec := "attitudeDirections", inPlace := ["internal/bytealg.IndexByteString", "internal/bytealg.IndexString", "internal/bytealg.abigen_runtime_cmpstring", "math/bits.Add64"], unfollowed := true, recurses := true, named := ["internal/strconv.uint64pow10", "math/bits.deBruijn32tab", "math/bits.deBruijn64tab", "internal/bytealg.MaxLen", "strconv.ErrSyntax", "strconv.ErrRange", "klippe/vector.zero", "math/bits.divideError", "math/bits.overflowError"], apart := false, laid := [("math/bits.deBruijn32tab", laid_math_bits_deBruijn32tab), ("math/bits.deBruijn64tab", laid_math_bits_deBruijn64tab), ("internal/strconv.uint64pow10", laid_internal_strconv_uint64pow10), ("strconv.ErrRange", laid_strconv_ErrRange), ("strconv.ErrSyntax", laid_strconv_ErrSyntax), ("klippe/vector.zero", laid_klippe_vector_zero)] }
def AttitudeDirectionsSaid : Prop := attitudeDirectionsRow.holds Tryz.pinned (OpenSpec.ofChange attitudeDirectionsSpec)

/-- ITS FALSE NEIGHBOUR: 'it returns false'. Refute it at one input. -/
def attitudeDirectionsWrong : ChangeSpec := { name := "attitudeDirections", fn := fun _ => fun
  | [d] => { results := [.lit (.bool false)], args := [d] }
  | _ => none }
def AttitudeDirectionsWrongFalsely : Prop := attitudeDirectionsRow.holds Tryz.pinned (OpenSpec.ofChange attitudeDirectionsWrong)

/-- 'klippelaw15.AttitudeCompass': WHATEVER THE INPUT: true; the input reads as it did. -/
def attitudeCompassSpec : ChangeSpec := { name := "attitudeCompass", fn := fun _ => fun
  | [d] => { results := [.lit (.bool true)], args := [d] }
  | _ => none }
def attitudeCompassRow : OpenClaim := { program := "ytejfiegmdllfbaagreatdoor", sum := "eabdfd2c3dedb5e0afaaa810673ee5dcf52720d10e84c607473db17503e9158f", func := "klippe/klippelaw15.AttitudeCompass", spec := "attitudeCompass", inPlace := ["internal/bytealg.IndexByteString", "internal/bytealg.IndexString", "internal/bytealg.abigen_runtime_cmpstring", "math/bits.Add64"], unfollowed := true, recurses := true, named := ["internal/strconv.uint64pow10", "math/bits.deBruijn32tab", "math/bits.deBruijn64tab", "internal/bytealg.MaxLen", "strconv.ErrSyntax", "strconv.ErrRange", "klippe/vector.zero", "math/bits.divideError", "math/bits.overflowError"], apart := false, laid := [("math/bits.deBruijn32tab", laid_math_bits_deBruijn32tab), ("math/bits.deBruijn64tab", laid_math_bits_deBruijn64tab), ("internal/strconv.uint64pow10", laid_internal_strconv_uint64pow10), ("strconv.ErrRange", laid_strconv_ErrRange), ("strconv.ErrSyntax", laid_strconv_ErrSyntax), ("klippe/vector.zero", laid_klippe_vector_zero)] }
def AttitudeCompassSaid : Prop := attitudeCompassRow.holds Tryz.pinned (OpenSpec.ofChange attitudeCompassSpec)

/-- ITS FALSE NEIGHBOUR: 'it returns false'. Refute it at one input. -/
def attitudeCompassWrong : ChangeSpec := { name := "attitudeCompass", fn := fun _ => fun
  | [d] => { results := [.lit (.bool false)], args := [d] }
  | _ => none }
def AttitudeCompassWrongFalsely : Prop := attitudeCompassRow.holds Tryz.pinned (OpenSpec.ofChange attitudeCompassWrong)

/-- 'klippelaw15.AttitudeOrders': WHATEVER THE INPUT: true; the input reads as it did. -/
def attitudeOrdersSpec : ChangeSpec := { name := "attitudeOrders", fn := fun _ => fun
  | [d1, d2] => { results := [.lit (.bool true)], args := [d1, d2] }
  | _ => none }
def attitudeOrdersRow : OpenClaim := { program := "ytejfiegmdllfbaagreatdoor", sum := "eabdfd2c3dedb5e0afaaa810673ee5dcf52720d10e84c607473db17503e9158f", func := "klippe/klippelaw15.AttitudeOrders", spec := "attitudeOrders", inPlace := ["internal/bytealg.IndexByteString", "internal/bytealg.IndexString", "internal/bytealg.abigen_runtime_cmpstring", "math/bits.Add64"], unfollowed := true, recurses := true, named := ["internal/strconv.uint64pow10", "math/bits.deBruijn32tab", "math/bits.deBruijn64tab", "internal/bytealg.MaxLen", "strconv.ErrSyntax", "strconv.ErrRange", "klippe/vector.zero", "math/bits.divideError", "math/bits.overflowError"], apart := false, laid := [("math/bits.deBruijn32tab", laid_math_bits_deBruijn32tab), ("math/bits.deBruijn64tab", laid_math_bits_deBruijn64tab), ("internal/strconv.uint64pow10", laid_internal_strconv_uint64pow10), ("strconv.ErrRange", laid_strconv_ErrRange), ("strconv.ErrSyntax", laid_strconv_ErrSyntax), ("klippe/vector.zero", laid_klippe_vector_zero)] }
def AttitudeOrdersSaid : Prop := attitudeOrdersRow.holds Tryz.pinned (OpenSpec.ofChange attitudeOrdersSpec)

/-- ITS FALSE NEIGHBOUR: 'it returns false'. Refute it at one input. -/
def attitudeOrdersWrong : ChangeSpec := { name := "attitudeOrders", fn := fun _ => fun
  | [d1, d2] => { results := [.lit (.bool false)], args := [d1, d2] }
  | _ => none }
def AttitudeOrdersWrongFalsely : Prop := attitudeOrdersRow.holds Tryz.pinned (OpenSpec.ofChange attitudeOrdersWrong)

/-- 'klippelaw15.AttitudeGradients': WHATEVER THE INPUT: true; the input reads as it did. -/
def attitudeGradientsSpec : ChangeSpec := { name := "attitudeGradients", fn := fun _ => fun
  | [d1, d2] => { results := [.lit (.bool true)], args := [d1, d2] }
  | _ => none }
def attitudeGradientsRow : OpenClaim := { program := "ytejfiegmdllfbaagreatdoor", sum := "eabdfd2c3dedb5e0afaaa810673ee5dcf52720d10e84c607473db17503e9158f", func := "klippe/klippelaw15.AttitudeGradients", spec := "attitudeGradients", inPlace := ["internal/bytealg.IndexByteString", "internal/bytealg.IndexString", "internal/bytealg.abigen_runtime_cmpstring", "math/bits.Add64"], unfollowed := true, recurses := true, named := ["internal/strconv.uint64pow10", "math/bits.deBruijn32tab", "math/bits.deBruijn64tab", "internal/bytealg.MaxLen", "strconv.ErrSyntax", "strconv.ErrRange", "klippe/vector.zero", "math/bits.divideError", "math/bits.overflowError"], apart := false, laid := [("math/bits.deBruijn32tab", laid_math_bits_deBruijn32tab), ("math/bits.deBruijn64tab", laid_math_bits_deBruijn64tab), ("internal/strconv.uint64pow10", laid_internal_strconv_uint64pow10), ("strconv.ErrRange", laid_strconv_ErrRange), ("strconv.ErrSyntax", laid_strconv_ErrSyntax), ("klippe/vector.zero", laid_klippe_vector_zero)] }
def AttitudeGradientsSaid : Prop := attitudeGradientsRow.holds Tryz.pinned (OpenSpec.ofChange attitudeGradientsSpec)

/-- ITS FALSE NEIGHBOUR: 'it returns false'. Refute it at one input. -/
def attitudeGradientsWrong : ChangeSpec := { name := "attitudeGradients", fn := fun _ => fun
  | [d1, d2] => { results := [.lit (.bool false)], args := [d1, d2] }
  | _ => none }
def AttitudeGradientsWrongFalsely : Prop := attitudeGradientsRow.holds Tryz.pinned (OpenSpec.ofChange attitudeGradientsWrong)

/-- 'klippelaw15.AttitudeHeights': WHATEVER THE INPUT: true; the input reads as it did. -/
def attitudeHeightsSpec : ChangeSpec := { name := "attitudeHeights", fn := fun _ => fun
  | [d1, d2] => { results := [.lit (.bool true)], args := [d1, d2] }
  | _ => none }
def attitudeHeightsRow : OpenClaim := { program := "ytejfiegmdllfbaagreatdoor", sum := "eabdfd2c3dedb5e0afaaa810673ee5dcf52720d10e84c607473db17503e9158f", func := "klippe/klippelaw15.AttitudeHeights", spec := "attitudeHeights", inPlace := ["internal/bytealg.IndexByteString", "internal/bytealg.IndexString", "internal/bytealg.abigen_runtime_cmpstring", "math/bits.Add64"], unfollowed := true, recurses := true, named := ["internal/strconv.uint64pow10", "math/bits.deBruijn32tab", "math/bits.deBruijn64tab", "internal/bytealg.MaxLen", "strconv.ErrSyntax", "strconv.ErrRange", "klippe/vector.zero", "math/bits.divideError", "math/bits.overflowError"], apart := false, laid := [("math/bits.deBruijn32tab", laid_math_bits_deBruijn32tab), ("math/bits.deBruijn64tab", laid_math_bits_deBruijn64tab), ("internal/strconv.uint64pow10", laid_internal_strconv_uint64pow10), ("strconv.ErrRange", laid_strconv_ErrRange), ("strconv.ErrSyntax", laid_strconv_ErrSyntax), ("klippe/vector.zero", laid_klippe_vector_zero)] }
def AttitudeHeightsSaid : Prop := attitudeHeightsRow.holds Tryz.pinned (OpenSpec.ofChange attitudeHeightsSpec)

/-- ITS FALSE NEIGHBOUR: 'it returns false'. Refute it at one input. -/
def attitudeHeightsWrong : ChangeSpec := { name := "attitudeHeights", fn := fun _ => fun
  | [d1, d2] => { results := [.lit (.bool false)], args := [d1, d2] }
  | _ => none }
def AttitudeHeightsWrongFalsely : Prop := attitudeHeightsRow.holds Tryz.pinned (OpenSpec.ofChange attitudeHeightsWrong)

/-- 'klippelaw15.AttitudeFalls': WHATEVER THE INPUT: true; the input reads as it did. -/
def attitudeFallsSpec : ChangeSpec := { name := "attitudeFalls", fn := fun _ => fun
  | [d1, d2, d3] => { results := [.lit (.bool true)], args := [d1, d2, d3] }
  | _ => none }
def attitudeFallsRow : OpenClaim := { program := "ytejfiegmdllfbaagreatdoor", sum := "eabdfd2c3dedb5e0afaaa810673ee5dcf52720d10e84c607473db17503e9158f", func := "klippe/klippelaw15.AttitudeFalls", spec := "attitudeFalls", inPlace := ["internal/bytealg.IndexByteString", "internal/bytealg.IndexString", "internal/bytealg.abigen_runtime_cmpstring", "math/bits.Add64"], unfollowed := true, recurses := true, named := ["internal/strconv.uint64pow10", "math/bits.deBruijn32tab", "math/bits.deBruijn64tab", "internal/bytealg.MaxLen", "strconv.ErrSyntax", "strconv.ErrRange", "klippe/vector.zero", "math/bits.divideError", "math/bits.overflowError"], apart := false, laid := [("math/bits.deBruijn32tab", laid_math_bits_deBruijn32tab), ("math/bits.deBruijn64tab", laid_math_bits_deBruijn64tab), ("internal/strconv.uint64pow10", laid_internal_strconv_uint64pow10), ("strconv.ErrRange", laid_strconv_ErrRange), ("strconv.ErrSyntax", laid_strconv_ErrSyntax), ("klippe/vector.zero", laid_klippe_vector_zero)] }
def AttitudeFallsSaid : Prop := attitudeFallsRow.holds Tryz.pinned (OpenSpec.ofChange attitudeFallsSpec)

/-- ITS FALSE NEIGHBOUR: 'it returns false'. Refute it at one input. -/
def attitudeFallsWrong : ChangeSpec := { name := "attitudeFalls", fn := fun _ => fun
  | [d1, d2, d3] => { results := [.lit (.bool false)], args := [d1, d2, d3] }
  | _ => none }
def AttitudeFallsWrongFalsely : Prop := attitudeFallsRow.holds Tryz.pinned (OpenSpec.ofChange attitudeFallsWrong)

/-- 'klippelaw15.AttitudeTurns': WHATEVER THE INPUT: true; the input reads as it did. -/
def attitudeTurnsSpec : ChangeSpec := { name := "attitudeTurns", fn := fun _ => fun
  | [d] => { results := [.lit (.bool true)], args := [d] }
  | _ => none }
def attitudeTurnsRow : OpenClaim := { program := "ytejfiegmdllfbaagreatdoor", sum := "eabdfd2c3dedb5e0afaaa810673ee5dcf52720d10e84c607473db17503e9158f", func := "klippe/klippelaw15.AttitudeTurns", spec := "attitudeTurns", inPlace := ["internal/bytealg.IndexByteString", "internal/bytealg.IndexString", "internal/bytealg.abigen_runtime_cmpstring", "math/bits.Add64"], unfollowed := true, recurses := true, named := ["internal/strconv.uint64pow10", "math/bits.deBruijn32tab", "math/bits.deBruijn64tab", "strconv.ErrSyntax", "strconv.ErrRange", "internal/bytealg.MaxLen", "klippe/vector.zero", "math/bits.divideError", "math/bits.overflowError"], apart := false, laid := [("math/bits.deBruijn32tab", laid_math_bits_deBruijn32tab), ("math/bits.deBruijn64tab", laid_math_bits_deBruijn64tab), ("internal/strconv.uint64pow10", laid_internal_strconv_uint64pow10), ("strconv.ErrRange", laid_strconv_ErrRange), ("strconv.ErrSyntax", laid_strconv_ErrSyntax), ("klippe/vector.zero", laid_klippe_vector_zero)] }
def AttitudeTurnsSaid : Prop := attitudeTurnsRow.holds Tryz.pinned (OpenSpec.ofChange attitudeTurnsSpec)

/-- ITS FALSE NEIGHBOUR: 'it returns false'. Refute it at one input. -/
def attitudeTurnsWrong : ChangeSpec := { name := "attitudeTurns", fn := fun _ => fun
  | [d] => { results := [.lit (.bool false)], args := [d] }
  | _ => none }
def AttitudeTurnsWrongFalsely : Prop := attitudeTurnsRow.holds Tryz.pinned (OpenSpec.ofChange attitudeTurnsWrong)

/- THE SECOND FORM. 'bulk': how many values and letters a reading holds, each counted each time it is reached (what is shared counts as often as it is met; a slice's spare places count too). A statement '..UptoSaid' is the law's where the arguments, and the package variables that the reading takes, are together of bulk at most 1048576: NARROWER than '..Said'. Prove '..Said' where nothing that the law and all that it calls make is longer than what came in: it says more and counts as full. Else prove '..UptoSaid'. A law counts once. -/
mutual
def uptoBulk {H : Type} : DataW H → Nat
  | .lit (.string bytes) => bytes.length + 1
  | .lit _ => 1
  | .nil => 1
  | .ptr d => uptoBulk d + 1
  | .slice elems spare => uptoBulkAll elems + uptoBulkAll spare + 1
  | .agg parts => uptoBulkAll parts + 1
  | .iface _ d => uptoBulk d + 1
  | .map entries => uptoBulkEntries entries + 1
  | .held _ => 1
def uptoBulkAll {H : Type} : List (DataW H) → Nat
  | [] => 0
  | d :: r => uptoBulk d + uptoBulkAll r
def uptoBulkEntries {H : Type} : List (Lit × DataW H) → Nat
  | [] => 0
  | x :: r => uptoBulkEntry x + uptoBulkEntries r
def uptoBulkEntry {H : Type} : Lit × DataW H → Nat
  | (.string bytes, d) => bytes.length + uptoBulk d + 1
  | (_, d) => uptoBulk d + 1
 end
def uptoSmall : (H : Type) → List (DataW H) → Bool := fun _ ds => decide (uptoBulkAll ds ≤ 1048576)
def OpenSpec.upto (s : _root_.Go.ChangeSpec) : _root_.Go.OpenSpec := { _root_.Go.OpenSpec.ofChange s with cond := some uptoSmall }

/-- 'klippelaw15.AttitudePlanes', WHERE WHAT IT READS IS OF BULK AT MOST 1048576: true; the input reads as it did. -/
def attitudePlanesUptoRow : OpenClaim := { program := "ytejfiegmdllfbaagreatdoor", sum := "eabdfd2c3dedb5e0afaaa810673ee5dcf52720d10e84c607473db17503e9158f", func := "klippe/klippelaw15.AttitudePlanes", spec := "attitudePlanes", inPlace := ["internal/bytealg.IndexByteString", "internal/bytealg.IndexString", "internal/bytealg.abigen_runtime_cmpstring", "math/bits.Add64"], unfollowed := true, recurses := true, named := ["internal/strconv.uint64pow10", "math/bits.deBruijn32tab", "math/bits.deBruijn64tab", "internal/bytealg.MaxLen", "strconv.ErrSyntax", "strconv.ErrRange", "klippe/vector.zero", "math/bits.divideError", "math/bits.overflowError"], apart := false, laid := [("math/bits.deBruijn32tab", laid_math_bits_deBruijn32tab), ("math/bits.deBruijn64tab", laid_math_bits_deBruijn64tab), ("internal/strconv.uint64pow10", laid_internal_strconv_uint64pow10), ("strconv.ErrRange", laid_strconv_ErrRange), ("strconv.ErrSyntax", laid_strconv_ErrSyntax), ("klippe/vector.zero", laid_klippe_vector_zero)], narrowed := true }
def AttitudePlanesUptoSaid : Prop := attitudePlanesUptoRow.holds Tryz.pinned (OpenSpec.upto attitudePlanesSpec)

/-- 'klippelaw15.AttitudeDirections', WHERE WHAT IT READS IS OF BULK AT MOST 1048576: true; the input reads as it did. -/
def attitudeDirectionsUptoRow : OpenClaim := { program := "ytejfiegmdllfbaagreatdoor", sum := "eabdfd2c3dedb5e0afaaa810673ee5dcf52720d10e84c607473db17503e9158f", func := "klippe/klippelaw15.AttitudeDirections", spec := "attitudeDirections", inPlace := ["internal/bytealg.IndexByteString", "internal/bytealg.IndexString", "internal/bytealg.abigen_runtime_cmpstring", "math/bits.Add64"], unfollowed := true, recurses := true, named := ["internal/strconv.uint64pow10", "math/bits.deBruijn32tab", "math/bits.deBruijn64tab", "internal/bytealg.MaxLen", "strconv.ErrSyntax", "strconv.ErrRange", "klippe/vector.zero", "math/bits.divideError", "math/bits.overflowError"], apart := false, laid := [("math/bits.deBruijn32tab", laid_math_bits_deBruijn32tab), ("math/bits.deBruijn64tab", laid_math_bits_deBruijn64tab), ("internal/strconv.uint64pow10", laid_internal_strconv_uint64pow10), ("strconv.ErrRange", laid_strconv_ErrRange), ("strconv.ErrSyntax", laid_strconv_ErrSyntax), ("klippe/vector.zero", laid_klippe_vector_zero)], narrowed := true }
def AttitudeDirectionsUptoSaid : Prop := attitudeDirectionsUptoRow.holds Tryz.pinned (OpenSpec.upto attitudeDirectionsSpec)

/-- 'klippelaw15.AttitudeCompass', WHERE WHAT IT READS IS OF BULK AT MOST 1048576: true; the input reads as it did. -/
def attitudeCompassUptoRow : OpenClaim := { program := "ytejfiegmdllfbaagreatdoor", sum := "eabdfd2c3dedb5e0afaaa810673ee5dcf52720d10e84c607473db17503e9158f", func := "klippe/klippelaw15.AttitudeCompass", spec := "attitudeCompass", inPlace := ["internal/bytealg.IndexByteString", "internal/bytealg.IndexString", "internal/bytealg.abigen_runtime_cmpstring", "math/bits.Add64"], unfollowed := true, recurses := true, named := ["internal/strconv.uint64pow10", "math/bits.deBruijn32tab", "math/bits.deBruijn64tab", "internal/bytealg.MaxLen", "strconv.ErrSyntax", "strconv.ErrRange", "klippe/vector.zero", "math/bits.divideError", "math/bits.overflowError"], apart := false, laid := [("math/bits.deBruijn32tab", laid_math_bits_deBruijn32tab), ("math/bits.deBruijn64tab", laid_math_bits_deBruijn64tab), ("internal/strconv.uint64pow10", laid_internal_strconv_uint64pow10), ("strconv.ErrRange", laid_strconv_ErrRange), ("strconv.ErrSyntax", laid_strconv_ErrSyntax), ("klippe/vector.zero", laid_klippe_vector_zero)], narrowed := true }
def AttitudeCompassUptoSaid : Prop := attitudeCompassUptoRow.holds Tryz.pinned (OpenSpec.upto attitudeCompassSpec)

/-- 'klippelaw15.AttitudeOrders', WHERE WHAT IT READS IS OF BULK AT MOST 1048576: true; the input reads as it did. -/
def attitudeOrdersUptoRow : OpenClaim := { program := "ytejfiegmdllfbaagreatdoor", sum := "eabdfd2c3dedb5e0afaaa810673ee5dcf52720d10e84c607473db17503e9158f", func := "klippe/klippelaw15.AttitudeOrders", spec := "attitudeOrders", inPlace := ["internal/bytealg.IndexByteString", "internal/bytealg.IndexString", "internal/bytealg.abigen_runtime_cmpstring", "math/bits.Add64"], unfollowed := true, recurses := true, named := ["internal/strconv.uint64pow10", "math/bits.deBruijn32tab", "math/bits.deBruijn64tab", "internal/bytealg.MaxLen", "strconv.ErrSyntax", "strconv.ErrRange", "klippe/vector.zero", "math/bits.divideError", "math/bits.overflowError"], apart := false, laid := [("math/bits.deBruijn32tab", laid_math_bits_deBruijn32tab), ("math/bits.deBruijn64tab", laid_math_bits_deBruijn64tab), ("internal/strconv.uint64pow10", laid_internal_strconv_uint64pow10), ("strconv.ErrRange", laid_strconv_ErrRange), ("strconv.ErrSyntax", laid_strconv_ErrSyntax), ("klippe/vector.zero", laid_klippe_vector_zero)], narrowed := true }
def AttitudeOrdersUptoSaid : Prop := attitudeOrdersUptoRow.holds Tryz.pinned (OpenSpec.upto attitudeOrdersSpec)

/-- 'klippelaw15.AttitudeGradients', WHERE WHAT IT READS IS OF BULK AT MOST 1048576: true; the input reads as it did. -/
def attitudeGradientsUptoRow : OpenClaim := { program := "ytejfiegmdllfbaagreatdoor", sum := "eabdfd2c3dedb5e0afaaa810673ee5dcf52720d10e84c607473db17503e9158f", func := "klippe/klippelaw15.AttitudeGradients", spec := "attitudeGradients", inPlace := ["internal/bytealg.IndexByteString", "internal/bytealg.IndexString", "internal/bytealg.abigen_runtime_cmpstring", "math/bits.Add64"], unfollowed := true, recurses := true, named := ["internal/strconv.uint64pow10", "math/bits.deBruijn32tab", "math/bits.deBruijn64tab", "internal/bytealg.MaxLen", "strconv.ErrSyntax", "strconv.ErrRange", "klippe/vector.zero", "math/bits.divideError", "math/bits.overflowError"], apart := false, laid := [("math/bits.deBruijn32tab", laid_math_bits_deBruijn32tab), ("math/bits.deBruijn64tab", laid_math_bits_deBruijn64tab), ("internal/strconv.uint64pow10", laid_internal_strconv_uint64pow10), ("strconv.ErrRange", laid_strconv_ErrRange), ("strconv.ErrSyntax", laid_strconv_ErrSyntax), ("klippe/vector.zero", laid_klippe_vector_zero)], narrowed := true }
def AttitudeGradientsUptoSaid : Prop := attitudeGradientsUptoRow.holds Tryz.pinned (OpenSpec.upto attitudeGradientsSpec)

/-- 'klippelaw15.AttitudeHeights', WHERE WHAT IT READS IS OF BULK AT MOST 1048576: true; the input reads as it did. -/
def attitudeHeightsUptoRow : OpenClaim := { program := "ytejfiegmdllfbaagreatdoor", sum := "eabdfd2c3dedb5e0afaaa810673ee5dcf52720d10e84c607473db17503e9158f", func := "klippe/klippelaw15.AttitudeHeights", spec := "attitudeHeights", inPlace := ["internal/bytealg.IndexByteString", "internal/bytealg.IndexString", "internal/bytealg.abigen_runtime_cmpstring", "math/bits.Add64"], unfollowed := true, recurses := true, named := ["internal/strconv.uint64pow10", "math/bits.deBruijn32tab", "math/bits.deBruijn64tab", "internal/bytealg.MaxLen", "strconv.ErrSyntax", "strconv.ErrRange", "klippe/vector.zero", "math/bits.divideError", "math/bits.overflowError"], apart := false, laid := [("math/bits.deBruijn32tab", laid_math_bits_deBruijn32tab), ("math/bits.deBruijn64tab", laid_math_bits_deBruijn64tab), ("internal/strconv.uint64pow10", laid_internal_strconv_uint64pow10), ("strconv.ErrRange", laid_strconv_ErrRange), ("strconv.ErrSyntax", laid_strconv_ErrSyntax), ("klippe/vector.zero", laid_klippe_vector_zero)], narrowed := true }
def AttitudeHeightsUptoSaid : Prop := attitudeHeightsUptoRow.holds Tryz.pinned (OpenSpec.upto attitudeHeightsSpec)

/-- 'klippelaw15.AttitudeFalls', WHERE WHAT IT READS IS OF BULK AT MOST 1048576: true; the input reads as it did. -/
def attitudeFallsUptoRow : OpenClaim := { program := "ytejfiegmdllfbaagreatdoor", sum := "eabdfd2c3dedb5e0afaaa810673ee5dcf52720d10e84c607473db17503e9158f", func := "klippe/klippelaw15.AttitudeFalls", spec := "attitudeFalls", inPlace := ["internal/bytealg.IndexByteString", "internal/bytealg.IndexString", "internal/bytealg.abigen_runtime_cmpstring", "math/bits.Add64"], unfollowed := true, recurses := true, named := ["internal/strconv.uint64pow10", "math/bits.deBruijn32tab", "math/bits.deBruijn64tab", "internal/bytealg.MaxLen", "strconv.ErrSyntax", "strconv.ErrRange", "klippe/vector.zero", "math/bits.divideError", "math/bits.overflowError"], apart := false, laid := [("math/bits.deBruijn32tab", laid_math_bits_deBruijn32tab), ("math/bits.deBruijn64tab", laid_math_bits_deBruijn64tab), ("internal/strconv.uint64pow10", laid_internal_strconv_uint64pow10), ("strconv.ErrRange", laid_strconv_ErrRange), ("strconv.ErrSyntax", laid_strconv_ErrSyntax), ("klippe/vector.zero", laid_klippe_vector_zero)], narrowed := true }
def AttitudeFallsUptoSaid : Prop := attitudeFallsUptoRow.holds Tryz.pinned (OpenSpec.upto attitudeFallsSpec)

/-- 'klippelaw15.AttitudeTurns', WHERE WHAT IT READS IS OF BULK AT MOST 1048576: true; the input reads as it did. -/
def attitudeTurnsUptoRow : OpenClaim := { program := "ytejfiegmdllfbaagreatdoor", sum := "eabdfd2c3dedb5e0afaaa810673ee5dcf52720d10e84c607473db17503e9158f", func := "klippe/klippelaw15.AttitudeTurns", spec := "attitudeTurns", inPlace := ["internal/bytealg.IndexByteString", "internal/bytealg.IndexString", "internal/bytealg.abigen_runtime_cmpstring", "math/bits.Add64"], unfollowed := true, recurses := true, named := ["internal/strconv.uint64pow10", "math/bits.deBruijn32tab", "math/bits.deBruijn64tab", "strconv.ErrSyntax", "strconv.ErrRange", "internal/bytealg.MaxLen", "klippe/vector.zero", "math/bits.divideError", "math/bits.overflowError"], apart := false, laid := [("math/bits.deBruijn32tab", laid_math_bits_deBruijn32tab), ("math/bits.deBruijn64tab", laid_math_bits_deBruijn64tab), ("internal/strconv.uint64pow10", laid_internal_strconv_uint64pow10), ("strconv.ErrRange", laid_strconv_ErrRange), ("strconv.ErrSyntax", laid_strconv_ErrSyntax), ("klippe/vector.zero", laid_klippe_vector_zero)], narrowed := true }
def AttitudeTurnsUptoSaid : Prop := attitudeTurnsUptoRow.holds Tryz.pinned (OpenSpec.upto attitudeTurnsSpec)

end Rows
end Go.Proofs.YtejfiegmdllfbaaGreatDoor
