/- An array of two ints, and a struct of two small ints, among the arguments. -/
import Derived.Test.YtgllflfifbacnaaGreatDoorKlEnv
import Derived.OpenShut
import Derived.Lib.SmallJoins
namespace Go.Proofs.YtgllflfifbacnaaGreatDoor
open Go.ChangeShapes Go.WideShapes Go.ChangeAt Go.RowKit

set_option maxRecDepth 100000 in
theorem Kl.open_pair {H : Type} {enc : TypeId × Value → H} {W : World} {base : Nat} {v : Value} {d : DataW H} {p : List MemPlace} (hok : Value.okWide Tryz.prog W .any base 34 v)
    (h : DataW.Trod enc Tryz.prog W 0 (fun _ => true) true 34 v d p) :
    ∃ a b : Int, v = .agg #[.int .i64 a, .int .i64 b] ∧ d = .agg [.lit (.int .i64 a), .lit (.int .i64 b)] ∧ p = [] ∧ (Lit.int .i64 a).wf = true ∧ (Lit.int .i64 b).wf = true := by
  have hu : Tryz.prog.underlying 34 = some (.array 2 3) := Tryz.underlying34
  simp only [Value.okWide, hu] at hok
  obtain ⟨cs, rfl, hsz, _⟩ := hok
  have hC : Tryz.prog.cellsOf 34 = 2 := by kernel_rfl
  have hE : Tryz.prog.cellsOf 3 = 1 := by kernel_rfl
  obtain ⟨c0, c1, rfl⟩ := Joins.array2 (hsz.trans hC)
  obtain ⟨fuel, hf⟩ := h
  obtain ⟨xs, m, _, hx, _, hlen, hi⟩ := DataW.trod_array hu hf
  match xs, hlen with
  | [y0, y1], _ =>
    have e0 := hi 0 (by decide)
    have e1 := hi 1 (by decide)
    rw [hE] at e0 e1
    simp [Value.cells] at e0 e1
    obtain ⟨a, ea, hy0, wa⟩ := DataW.trod_int Tryz.underlying3 e0
    obtain ⟨b, eb, hy1, wb⟩ := DataW.trod_int Tryz.underlying3 e1
    subst hy0 hy1
    simp at ea eb
    subst ea eb
    simp at hx
    exact ⟨a, b, rfl, hx.1, hx.2, wa, wb⟩
set_option maxRecDepth 100000 in
theorem Kl.shut_pair {H : Type} {enc : TypeId × Value → H} {w : World} {base : Nat} {spare : Nat → Bool} {held : Bool} {a b : Int} (ha : (Lit.int .i64 a).wf = true) (hb : (Lit.int .i64 b).wf = true) :
    DataW.Trod enc Tryz.prog w base spare held 34 (.agg #[.int .i64 a, .int .i64 b]) (.agg [.lit (.int .i64 a), .lit (.int .i64 b)]) [] := by
  refine ⟨2, ?_⟩
  have hu : Tryz.prog.underlying 34 = some (.array 2 3) := Tryz.underlying34
  have hC : Tryz.prog.cellsOf 34 = 2 := by kernel_rfl
  have hE : Tryz.prog.cellsOf 3 = 1 := by kernel_rfl
  have t0 : DataW.trod enc Tryz.prog w base spare held 1 3 [.int .i64 a] = some (.lit (.int .i64 a), []) := trod_int_mk 0 Tryz.underlying3 ha
  have t1 : DataW.trod enc Tryz.prog w base spare held 1 3 [.int .i64 b] = some (.lit (.int .i64 b), []) := trod_int_mk 0 Tryz.underlying3 hb
  have r2 : List.range 2 = [0, 1] := rfl
  unfold DataW.trod
  rw [hu]
  simp [Value.cells, hC, hE, r2, t0, t1]
set_option maxRecDepth 100000 in
theorem Kl.open_small {H : Type} {enc : TypeId × Value → H} {W : World} {base : Nat} {v : Value} {d : DataW H} {p : List MemPlace} (hok : Value.okWide Tryz.prog W .any base 66 v)
    (h : DataW.Trod enc Tryz.prog W 0 (fun _ => true) true 66 v d p) :
    ∃ a b : Int, v = .agg #[.int .i16 a, .int .u8 b] ∧ d = .agg [.lit (.int .i16 a), .lit (.int .u8 b)] ∧ p = [] ∧ (Lit.int .i16 a).wf = true ∧ (Lit.int .u8 b).wf = true := by
  obtain ⟨c0, c1, y0, y1, m, hv0, hd0, hp0, e0, e1⟩ := Joins.open_agg2 Tryz.underlying66 (by kernel_rfl) (by kernel_rfl) hok h
  obtain ⟨a, ea, hy0, wa⟩ := DataW.trod_int Tryz.underlying64 e0
  obtain ⟨b, eb, hy1, wb⟩ := DataW.trod_int Tryz.underlying5 e1
  subst hy0 hy1
  simp at ea eb
  subst ea eb
  exact ⟨a, b, hv0, hd0, hp0, wa, wb⟩
set_option maxRecDepth 100000 in
theorem Kl.shut_small {H : Type} {enc : TypeId × Value → H} {w : World} {base : Nat} {spare : Nat → Bool} {held : Bool} {a b : Int} (ha : (Lit.int .i16 a).wf = true) (hb : (Lit.int .u8 b).wf = true) :
    DataW.Trod enc Tryz.prog w base spare held 66 (.agg #[.int .i16 a, .int .u8 b]) (.agg [.lit (.int .i16 a), .lit (.int .u8 b)]) [] :=
  Joins.shut_agg2 (y0 := (_, [])) (y1 := (_, [])) Tryz.underlying66 (by kernel_rfl) (by kernel_rfl) ⟨1, trod_int_mk 0 Tryz.underlying64 ha⟩ ⟨1, trod_int_mk 0 Tryz.underlying5 hb⟩
end Go.Proofs.YtgllflfifbacnaaGreatDoor
