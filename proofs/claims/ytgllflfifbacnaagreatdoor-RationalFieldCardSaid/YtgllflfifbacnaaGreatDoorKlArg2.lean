/- An array of two ints, and a struct of two small ints, among the arguments. -/
import Derived.Test.YtgllflfifbacnaaGreatDoorKlEnv
import Derived.OpenShut
import Derived.Lib.SmallJoins
namespace Go.Proofs.YtgllflfifbacnaaGreatDoor
open Go.ChangeShapes Go.WideShapes Go.ChangeAt Go.RowKit

set_option maxRecDepth 100000 in
theorem Kl.open_small {H : Type} {enc : TypeId × Value → H} {W : World} {base : Nat} {v : Value} {d : DataW H} {p : List MemPlace} (hok : Value.okWide Tryz.prog W .any base 66 v)
    (h : DataW.Trod enc Tryz.prog W 0 (fun _ => true) true 66 v d p) :
    ∃ a b : Int, v = .agg #[.int .i16 a, .int .u8 b] ∧ d = .agg [.lit (.int .i16 a), .lit (.int .u8 b)] ∧ p = [] ∧ (Lit.int .i16 a).wf = true ∧ (Lit.int .u8 b).wf = true := by
  obtain ⟨c0, c1, y0, y1, m, hv0, hd0, hp0, e0, e1⟩ := Joins.open_agg2 Tryz.underlying66 (by kernel_rfl) (by kernel_rfl) hok h
  obtain ⟨a, ea, hy0, wa⟩ := DataW.trod_int Tryz.underlying64 e0
  obtain ⟨b, eb, hy1, wb⟩ := DataW.trod_int Tryz.underlying5 e1
  subst hy0 hy1
  simp at ea eb
  subst ea eb
  exact ⟨a, b, hv0, hd0, hp0, wa, wb⟩
set_option maxRecDepth 100000 in
theorem Kl.shut_small {H : Type} {enc : TypeId × Value → H} {w : World} {base : Nat} {spare : Nat → Bool} {held : Bool} {a b : Int} (ha : (Lit.int .i16 a).wf = true) (hb : (Lit.int .u8 b).wf = true) :
    DataW.Trod enc Tryz.prog w base spare held 66 (.agg #[.int .i16 a, .int .u8 b]) (.agg [.lit (.int .i16 a), .lit (.int .u8 b)]) [] :=
  Joins.shut_agg2 (y0 := (_, [])) (y1 := (_, [])) Tryz.underlying66 (by kernel_rfl) (by kernel_rfl) ⟨1, trod_int_mk 0 Tryz.underlying64 ha⟩ ⟨1, trod_int_mk 0 Tryz.underlying5 hb⟩
end Go.Proofs.YtgllflfifbacnaaGreatDoor
