/- klippelaw02.RationalParses returns true for every text and every number of zeros, and leaves the text as it was, whatever memory and schedule; the package-level variables of Go's library that its row lists start as the library's text lays them. -/
import Derived.Test.YtgllflfifbacnaaGreatDoorCards
import Derived.Test.YtgllflfifbacnaaGreatDoorTie
import Derived.Test.YtgllflfifbacnaaGreatDoorKlEnv
import Derived.Test.YtgllflfifbacnaaGreatDoorKlLawRParses
import Derived.OpenShut
import Derived.Lib.SmallJoins
namespace Go.Proofs.YtgllflfifbacnaaGreatDoor
open Go.ChangeShapes Go.WideShapes Go.ChangeAt Go.RowKit
open Go.ChangeMaps (open_string shut_string)
open Kl (own laidWorld)
open Go.Lib

theorem Kl.rparses_laid_met (os : Os) (args : Array Value) : laidMet Tryz.prog Rows.rationalParsesRow.laid ((laidWorld os).forCall (fun _ _ => 0) ⟨#[], args, []⟩).memory :=
  (((Kl.pieceA os args).append (Kl.pieceB os args) (by kernel_rfl)).append (Kl.pieceC os args) (by kernel_rfl)).met
theorem Kl.rparses_env_of {W : World} (h : laidMet Tryz.prog Rows.rationalParsesRow.laid W) : Kl.Env W := by
  have h2 := h.tail.tail
  have h4 := h2.tail.tail
  refine ⟨tabIs_of_head Kl.gTab Kl.gTabT Tryz.underlying219 Tryz.underlying138 Kl.cells121 Kl.cells142 h2, ?_, ?_⟩
  · obtain ⟨a, s, hv, _⟩ := laid_sentinel h4.tail Kl.gSyn Kl.gSynT Tryz.underlying93 Kl.row156 Tryz.underlying222 Tryz.underlying224 rfl rfl Tryz.underlying9 Kl.cells158 Kl.cells9
    exact ⟨_, _, hv⟩
  · obtain ⟨a, s, hv, _⟩ := laid_sentinel h4 Kl.gRng Kl.gRngT Tryz.underlying93 Kl.row156 Tryz.underlying222 Tryz.underlying224 rfl rfl Tryz.underlying9 Kl.cells158 Kl.cells9
    exact ⟨_, _, hv⟩

set_option maxRecDepth 100000 in
theorem Kl.rparses_contract (H : Type) (enc : TypeId × Value → H) (W : World) (base : Nat) (args : Array Value) (ds gs : List (DataW H)) (before : List MemPlace)
    (hval : ∀ (j : Nat) t v, Tryz.f5.params[j]? = some t → args[j]? = some v → Value.okWide Tryz.prog W .any base t v)
    (hW : DataW.Whole enc Tryz.prog Tryz.f5.params.toList Rows.rationalParsesSpec.vars false W args.toList ds gs before) (hL : laidMetH Tryz.prog Rows.rationalParsesRow.laid W) (hSh : W.ShapedOpen Tryz.prog) :
    Calls Tryz.prog 5 args W fun e W' => ∃ v, e = .returned v ∧ Rows.rationalParsesSpec.post enc Tryz.prog Tryz.f5 false true false false W args v W' := by
  have hW' := hW
  obtain ⟨p, q, hA0, hV, rfl, hfz, hnd⟩ := hW
  have hA : DataW.TrodAll enc Tryz.prog W 0 (fun _ => true) true Tryz.f5.params.toList args.toList ds p := hA0
  rw [Tryz.params5] at hA hval
  obtain ⟨v0, v1, d0, d1, p0, p1, rfl, rfl, rfl, h0, h1⟩ := trodAll_two hA
  obtain ⟨rfl, rfl⟩ := trodVars_none hV
  have hlt := hW'.lt
  rw [List.append_nil] at hlt
  obtain ⟨s0, rfl, rfl, rfl, hs0⟩ := open_string Tryz.underlying9 (hval 0 9 v0 rfl rfl) h0
  obtain ⟨z1, rfl, rfl, rfl, wn1⟩ := open_int Tryz.underlying5 (hval 1 5 v1 rfl rfl) h1
  have hz1 := bounds_u8 wn1
  have R : Kl.EnvR W := ⟨Kl.rparses_env_of hL, Tryz.laysM145.s1_3 W hSh⟩
  clear hA0
  refine (Kl.lawParses s0 z1 hz1.1 hz1.2 W R hs0).mono fun e W' ⟨he, hb⟩ => ?_
  subst he
  exact ⟨_, rfl, _, _, _, [], [] ++ [], [], hW', trodAll_mk1 (shut_bool Tryz.underlying4 true), trodAll_mk2 (shut_string Tryz.underlying9 hs0) (shut_int Tryz.underlying5 wn1), rfl, hb.frame _, fun h => by cases h⟩

theorem Kl.rparses_reads (os : Os) {H : Type} (enc : TypeId × Value → H) : ∃ places, DataW.whole enc Tryz.prog ((laidWorld os).forCall (fun _ _ => 0) ⟨#[], #[.string ⟨#[]⟩, .int .u8 0], []⟩).memory Tryz.f5.params.toList Rows.rationalParsesSpec.vars false #[Value.string ⟨#[]⟩, Value.int .u8 0].toList 8 = some ([.lit (.string []), .lit (.int .u8 0)], [], places) :=
  ⟨[], by kernel_rfl⟩

set_option maxRecDepth 100000 in
theorem Kl.rparses_lifted (os : Os) (started : os.Started) (H : Type) (enc : TypeId × Value → H) (F : Stop.Interp) :
    ReturnsInHanded {} Tryz.checked os 5 .any ((OpenSpec.ofChange Rows.rationalParsesSpec).preRow enc Tryz.prog Tryz.f5 Rows.rationalParsesRow.domain false Rows.rationalParsesRow.laid) (((OpenSpec.ofChange Rows.rationalParsesSpec).at F).post enc Tryz.prog Tryz.f5 false true false false) := by
  obtain ⟨places, hx⟩ := Kl.rparses_reads os enc
  refine returnsInHanded_of_row (C := Tryz.checked) (s := OpenSpec.ofChange Rows.rationalParsesSpec) own started (by kernel_rfl) Tryz.func5
    (witness_row_atRef (enc := enc) (C := Tryz.checked) false (laidWorld os) #[.string ⟨#[]⟩, .int .u8 0] rfl (by kernel_rfl) (by kernel_rfl) (by kernel_rfl)
      (OpenSpec.preRow_of_cond 8 hx (by kernel_rfl) (fun k hk => by cases hk) (by kernel_rfl) (Kl.rparses_laid_met os _))) ?_
  intro W base args ds gs before hval hW _ _ _ hL hSh _
  exact Kl.rparses_contract H enc W base args ds gs before hval hW hL hSh

theorem Kl.rparses_said : Rows.RationalParsesSaid :=
  OpenClaim.holds_of_cond 5 Tryz.f5 rfl rfl rfl rfl rfl rfl rfl ⟨rfl, rfl, rfl, rfl, rfl⟩ rfl rfl rfl rfl rfl (by kernel_rfl) Tryz.func5 (by kernel_rfl)
    (of_decide_eq_true (by kernel_rfl)) (by unfold Func.isWrapper; first | (rw [if_pos (by decide +kernel)]; kernel_rfl) | (rw [if_neg (by decide +kernel)]; exact ⟨rfl, rfl⟩))
    (fun os started H enc _ F => by rw [OpenClaim.pre_eq_preRow]; exact Kl.rparses_lifted os started H enc F)

/-- No parameter wants a stand-in; the program's own looks: what the card asks. -/
theorem Kl.rparses_plain (f : FuncId) (fn : Func) (hf : Tryz.pinned.checked.prog.funcNamed "klippe/klippelaw02.RationalParses" = some f) (hfn : Tryz.pinned.checked.prog.funcs[f]? = some fn) :
    true = Tryz.pinned.checked.prog.looks [] ∧ ∀ (j : Nat) t, fn.params[j]? = some t → Tryz.pinned.checked.prog.wantsStandIn t = false := by
  obtain rfl : f = 5 := Option.some.inj ((show Tryz.prog.funcNamed "klippe/klippelaw02.RationalParses" = some 5 by kernel_rfl).symm.trans hf) |>.symm
  obtain rfl : fn = Tryz.f5 := (Option.some.inj (Tryz.func5.symm.trans hfn)).symm
  refine ⟨by kernel_rfl, fun j t ht => ?_⟩
  rw [Tryz.params5] at ht
  have st0 : Tryz.prog.wantsStandIn 9 = false := by kernel_rfl
  have st1 : Tryz.prog.wantsStandIn 5 = false := by kernel_rfl
  have := Array.mem_of_getElem? ht
  simp at this
  rcases this with rfl | rfl <;> (show Tryz.prog.wantsStandIn _ = false; with_reducible assumption)

/-- ████ THE CARD ████ -/
theorem rationalParses_card : Rows.RationalParsesCardSaid :=
  Claim7.holds_tied_plain_at .later [] _ _ _ _ Kl.rparses_said (fun _ h => by cases h) (by kernel_rfl) (fun _ h => by cases h) rationalParses_row_tie rfl ⟨rfl, rfl⟩ (by kernel_rfl) rfl Kl.rparses_plain (by kernel_rfl)
end Go.Proofs.YtgllflfifbacnaaGreatDoor
