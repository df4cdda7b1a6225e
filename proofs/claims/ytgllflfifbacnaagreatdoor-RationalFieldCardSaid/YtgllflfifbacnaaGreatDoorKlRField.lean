/- klippelaw02.RationalField returns true for every three descriptions of numbers, whatever memory and schedule; the package-level variables of Go's library that its row lists start as the library's text lays them. -/
import Derived.Test.YtgllflfifbacnaaGreatDoorCards
import Derived.Test.YtgllflfifbacnaaGreatDoorTie
import Derived.Test.YtgllflfifbacnaaGreatDoorKlEnv
import Derived.Test.YtgllflfifbacnaaGreatDoorKlLawRField
import Derived.OpenShut
import Derived.Lib.SmallJoins
import Derived.Test.YtgllflfifbacnaaGreatDoorKlArg2
namespace Go.Proofs.YtgllflfifbacnaaGreatDoor
open Go.ChangeShapes Go.WideShapes Go.ChangeAt Go.RowKit
open Go.ChangeMaps (open_string shut_string)
open Kl (own laidWorld)
open Go.Lib

theorem Kl.rfield_laid_met (os : Os) (args : Array Value) : laidMet Tryz.prog Rows.rationalFieldRow.laid ((laidWorld os).forCall (fun _ _ => 0) ⟨#[], args, []⟩).memory :=
  (((Kl.pieceA os args).append (Kl.pieceB os args) (by kernel_rfl)).append (Kl.pieceC os args) (by kernel_rfl)).met
theorem Kl.rfield_env_of {W : World} (h : laidMet Tryz.prog Rows.rationalFieldRow.laid W) : Kl.Env W := by
  have h2 := h.tail.tail
  have h4 := h2.tail.tail
  refine ⟨tabIs_of_head Kl.gTab Kl.gTabT Tryz.underlying219 Tryz.underlying138 Kl.cells121 Kl.cells142 h2, ?_, ?_⟩
  · obtain ⟨a, s, hv, _⟩ := laid_sentinel h4.tail Kl.gSyn Kl.gSynT Tryz.underlying93 Kl.row156 Tryz.underlying222 Tryz.underlying224 rfl rfl Tryz.underlying9 Kl.cells158 Kl.cells9
    exact ⟨_, _, hv⟩
  · obtain ⟨a, s, hv, _⟩ := laid_sentinel h4 Kl.gRng Kl.gRngT Tryz.underlying93 Kl.row156 Tryz.underlying222 Tryz.underlying224 rfl rfl Tryz.underlying9 Kl.cells158 Kl.cells9
    exact ⟨_, _, hv⟩

set_option maxRecDepth 100000 in
theorem Kl.rfield_contract (H : Type) (enc : TypeId × Value → H) (W : World) (base : Nat) (args : Array Value) (ds gs : List (DataW H)) (before : List MemPlace)
    (hval : ∀ (j : Nat) t v, Tryz.f12.params[j]? = some t → args[j]? = some v → Value.okWide Tryz.prog W .any base t v)
    (hW : DataW.Whole enc Tryz.prog Tryz.f12.params.toList Rows.rationalFieldSpec.vars false W args.toList ds gs before) (hL : laidMetH Tryz.prog Rows.rationalFieldRow.laid W) (hSh : W.ShapedOpen Tryz.prog) :
    Calls Tryz.prog 12 args W fun e W' => ∃ v, e = .returned v ∧ Rows.rationalFieldSpec.post enc Tryz.prog Tryz.f12 false true false false W args v W' := by
  have hW' := hW
  obtain ⟨p, q, hA0, hV, rfl, hfz, hnd⟩ := hW
  have hA : DataW.TrodAll enc Tryz.prog W 0 (fun _ => true) true Tryz.f12.params.toList args.toList ds p := hA0
  rw [Tryz.params12] at hA hval
  obtain ⟨v0, v1, v2, d0, d1, d2, p0, p1, p2, rfl, rfl, rfl, h0, h1, h2⟩ := trodAll_three hA
  obtain ⟨rfl, rfl⟩ := trodVars_none hV
  have hlt := hW'.lt
  rw [List.append_nil] at hlt
  obtain ⟨a0, b0, rfl, rfl, rfl, wa0, wb0⟩ := Kl.open_small (hval 0 66 v0 rfl rfl) h0
  obtain ⟨a1, b1, rfl, rfl, rfl, wa1, wb1⟩ := Kl.open_small (hval 1 66 v1 rfl rfl) h1
  obtain ⟨a2, b2, rfl, rfl, rfl, wa2, wb2⟩ := Kl.open_small (hval 2 66 v2 rfl rfl) h2
  have R : Kl.EnvR W := ⟨Kl.rfield_env_of hL, Tryz.laysM145.s1_3 W hSh⟩
  clear hA0
  refine (Kl.lawField a0 b0 a1 b1 a2 b2 (bounds_i16 wa0) (bounds_u8 wb0) (bounds_i16 wa1) (bounds_u8 wb1) (bounds_i16 wa2) (bounds_u8 wb2) W R).mono fun e W' ⟨he, hb⟩ => ?_
  subst he
  exact ⟨_, rfl, _, _, _, [], [] ++ [] ++ [], [], hW', trodAll_mk1 (shut_bool Tryz.underlying4 true), by rw [List.append_assoc]; exact trodAll_mk3 (Kl.shut_small wa0 wb0) (Kl.shut_small wa1 wb1) (Kl.shut_small wa2 wb2), rfl, hb.frame _, fun h => by cases h⟩

theorem Kl.rfield_reads (os : Os) {H : Type} (enc : TypeId × Value → H) : ∃ places, DataW.whole enc Tryz.prog ((laidWorld os).forCall (fun _ _ => 0) ⟨#[], #[.agg #[.int .i16 0, .int .u8 0], .agg #[.int .i16 0, .int .u8 0], .agg #[.int .i16 0, .int .u8 0]], []⟩).memory Tryz.f12.params.toList Rows.rationalFieldSpec.vars false #[Value.agg #[.int .i16 0, .int .u8 0], Value.agg #[.int .i16 0, .int .u8 0], Value.agg #[.int .i16 0, .int .u8 0]].toList 8 = some ([.agg [.lit (.int .i16 0), .lit (.int .u8 0)], .agg [.lit (.int .i16 0), .lit (.int .u8 0)], .agg [.lit (.int .i16 0), .lit (.int .u8 0)]], [], places) :=
  ⟨[], by kernel_rfl⟩

set_option maxRecDepth 100000 in
theorem Kl.rfield_lifted (os : Os) (started : os.Started) (H : Type) (enc : TypeId × Value → H) (F : Stop.Interp) :
    ReturnsInHanded {} Tryz.checked os 12 .any ((OpenSpec.ofChange Rows.rationalFieldSpec).preRow enc Tryz.prog Tryz.f12 Rows.rationalFieldRow.domain false Rows.rationalFieldRow.laid) (((OpenSpec.ofChange Rows.rationalFieldSpec).at F).post enc Tryz.prog Tryz.f12 false true false false) := by
  obtain ⟨places, hx⟩ := Kl.rfield_reads os enc
  refine returnsInHanded_of_row (C := Tryz.checked) (s := OpenSpec.ofChange Rows.rationalFieldSpec) own started (by kernel_rfl) Tryz.func12
    (witness_row_atRef (enc := enc) (C := Tryz.checked) false (laidWorld os) #[.agg #[.int .i16 0, .int .u8 0], .agg #[.int .i16 0, .int .u8 0], .agg #[.int .i16 0, .int .u8 0]] rfl (by kernel_rfl) (by kernel_rfl) (by kernel_rfl)
      (OpenSpec.preRow_of_cond 8 hx (by kernel_rfl) (fun k hk => by cases hk) (by kernel_rfl) (Kl.rfield_laid_met os _))) ?_
  intro W base args ds gs before hval hW _ _ _ hL hSh _
  exact Kl.rfield_contract H enc W base args ds gs before hval hW hL hSh

theorem Kl.rfield_said : Rows.RationalFieldSaid :=
  OpenClaim.holds_of_cond 12 Tryz.f12 rfl rfl rfl rfl rfl rfl rfl ⟨rfl, rfl, rfl, rfl, rfl⟩ rfl rfl rfl rfl rfl (by kernel_rfl) Tryz.func12 (by kernel_rfl)
    (of_decide_eq_true (by kernel_rfl)) (by unfold Func.isWrapper; first | (rw [if_pos (by decide +kernel)]; kernel_rfl) | (rw [if_neg (by decide +kernel)]; exact ⟨rfl, rfl⟩))
    (fun os started H enc _ F => by rw [OpenClaim.pre_eq_preRow]; exact Kl.rfield_lifted os started H enc F)

/-- No parameter wants a stand-in; the program's own looks: what the card asks. -/
theorem Kl.rfield_plain (f : FuncId) (fn : Func) (hf : Tryz.pinned.checked.prog.funcNamed "klippe/klippelaw02.RationalField" = some f) (hfn : Tryz.pinned.checked.prog.funcs[f]? = some fn) :
    true = Tryz.pinned.checked.prog.looks [] ∧ ∀ (j : Nat) t, fn.params[j]? = some t → Tryz.pinned.checked.prog.wantsStandIn t = false := by
  obtain rfl : f = 12 := Option.some.inj ((show Tryz.prog.funcNamed "klippe/klippelaw02.RationalField" = some 12 by kernel_rfl).symm.trans hf) |>.symm
  obtain rfl : fn = Tryz.f12 := (Option.some.inj (Tryz.func12.symm.trans hfn)).symm
  refine ⟨by kernel_rfl, fun j t ht => ?_⟩
  rw [Tryz.params12] at ht
  have st0 : Tryz.prog.wantsStandIn 66 = false := by kernel_rfl
  have := Array.mem_of_getElem? ht
  simp at this
  subst this
  exact st0

/-- ████ THE CARD ████ -/
theorem rationalField_card : Rows.RationalFieldCardSaid :=
  Claim7.holds_tied_plain_at .later [] _ _ _ _ Kl.rfield_said (fun _ h => by cases h) (by kernel_rfl) (fun _ h => by cases h) rationalField_row_tie rfl ⟨rfl, rfl⟩ (by kernel_rfl) rfl Kl.rfield_plain (by kernel_rfl)
end Go.Proofs.YtgllflfifbacnaaGreatDoor
