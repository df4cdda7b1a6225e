/- klippelaw01.IntegerRoots returns true for every description of an integer (a bool and a slice of bytes) and every int8, and leaves them as they were, whatever memory and schedule; the package-level variables of Go's library that its row lists start as the library's text lays them. -/
import Derived.Test.YtkekdcmonenciaaGreatDoorCards
import Derived.Test.YtkekdcmonenciaaGreatDoorTie
import Derived.Test.YtkekdcmonenciaaGreatDoorKlArg
import Derived.Test.YtkekdcmonenciaaGreatDoorKlLawRoots
namespace Go.Proofs.YtkekdcmonenciaaGreatDoor
open Go.ChangeShapes Go.WideShapes Go.ChangeAt Go.RowKit
open Go.ChangeMaps (open_string shut_string)
open Kl (own laidWorld)
open Go.Lib

theorem Kl.roots_laid_met (os : Os) (args : Array Value) : laidMet Tryz.prog Rows.integerRootsRow.laid ((laidWorld os).forCall (fun _ _ => 0) ⟨#[], args, []⟩).memory :=
  (((Kl.pieceA os args).append (Kl.pieceB os args) (by kernel_rfl)).append (Kl.pieceC os args) (by kernel_rfl)).met
theorem Kl.roots_env_of {W : World} (h : laidMet Tryz.prog Rows.integerRootsRow.laid W) : Kl.Env W := by
  have h2 := h.tail.tail
  have h4 := h2.tail.tail
  refine ⟨tabIs_of_head Kl.gTab Kl.gTabT Tryz.underlying142 Tryz.underlying121 Kl.cells121 Kl.cells142 h2, ?_, ?_⟩
  · obtain ⟨a, s, hv, _⟩ := laid_sentinel h4.tail Kl.gSyn Kl.gSynT Tryz.underlying114 Kl.row156 Tryz.underlying156 Tryz.underlying158 rfl rfl Tryz.underlying9 Kl.cells158 Kl.cells9
    exact ⟨_, _, hv⟩
  · obtain ⟨a, s, hv, _⟩ := laid_sentinel h4 Kl.gRng Kl.gRngT Tryz.underlying114 Kl.row156 Tryz.underlying156 Tryz.underlying158 rfl rfl Tryz.underlying9 Kl.cells158 Kl.cells9
    exact ⟨_, _, hv⟩

set_option maxRecDepth 100000 in
theorem Kl.roots_contract (H : Type) (enc : TypeId × Value → H) (W : World) (base : Nat) (args : Array Value) (ds gs : List (DataW H)) (before : List MemPlace)
    (hval : ∀ (j : Nat) t v, Tryz.f8.params[j]? = some t → args[j]? = some v → Value.okWide Tryz.prog W .any base t v)
    (hW : DataW.Whole enc Tryz.prog Tryz.f8.params.toList Rows.integerRootsSpec.vars false W args.toList ds gs before) (hL : laidMetH Tryz.prog Rows.integerRootsRow.laid W) :
    Calls Tryz.prog 8 args W fun e W' => ∃ v, e = .returned v ∧ Rows.integerRootsSpec.post enc Tryz.prog Tryz.f8 false true false false W args v W' := by
  have hW' := hW
  obtain ⟨p, q, hA0, hV, rfl, hfz, hnd⟩ := hW
  have hA : DataW.TrodAll enc Tryz.prog W 0 (fun _ => true) true Tryz.f8.params.toList args.toList ds p := hA0
  rw [Tryz.params8] at hA hval
  obtain ⟨v0, v1, d0, d1, p0, p1, rfl, rfl, rfl, h0, h1⟩ := trodAll_two hA
  obtain ⟨rfl, rfl⟩ := trodVars_none hV
  have hlt := hW'.lt
  rw [List.append_nil] at hlt
  obtain ⟨b0, q0, n0, c0, l0, e0, hd0, hl0, m0⟩ := Kl.arg_make2 (N := 40) (by decide) (hval 0 24 v0 rfl rfl) h0
  obtain ⟨b9, q9, n9, c9, l9, e9, hd9, hl9, m9⟩ := Kl.arg_make2 (N := 20) (by decide) (hval 0 24 v0 rfl rfl) h0
  obtain ⟨rfl, rfl, rfl, rfl⟩ : b9 = b0 ∧ q9 = q0 ∧ n9 = n0 ∧ c9 = c0 := by
    rw [e0] at e9
    injection e9 with e9
    simp at e9
    exact ⟨e9.1.symm, e9.2.1.symm, e9.2.2.1.symm, e9.2.2.2.symm⟩
  obtain ⟨z1, rfl, rfl, rfl, wn1⟩ := open_int Tryz.underlying41 (hval 1 41 v1 rfl rfl) h1
  have hz1 := bounds_i8 wn1
  have E := Kl.roots_env_of hL
  have walk : Calls Tryz.prog 8 #[v0, .int .i8 z1] W fun e W' => e = .returned (.bool true) ∧ Below W.heap.size W W' := by
    rw [e0]
    exact Kl.lawRoots _ _ _ _ l0 l9 hd0 hl0 hd9 hl9 z1 hz1 W E m0 m9
  refine walk.mono fun e W' ⟨he, hb⟩ => ?_
  subst he
  exact ⟨_, rfl, _, _, _, [], p0 ++ [], [], hW', trodAll_mk1 (shut_bool Tryz.underlying4 true), trodAll_mk2 (hb.trod Kl.laidOut (by kernel_rfl) (by decide +kernel) h0 (fun x hx => hlt x (List.mem_append_left _ hx))) (shut_int Tryz.underlying41 wn1), rfl, hb.frame _, fun h => by cases h⟩

theorem Kl.roots_reads (os : Os) {H : Type} (enc : TypeId × Value → H) : ∃ places, DataW.whole enc Tryz.prog ((laidWorld os).forCall (fun _ _ => 0) ⟨#[], #[.agg #[.bool false, .slice none 0 0], .int .i8 0], []⟩).memory Tryz.f8.params.toList Rows.integerRootsSpec.vars false #[Value.agg #[.bool false, .slice none 0 0], Value.int .i8 0].toList 8 = some ([.agg [.lit (.bool false), .nil], .lit (.int .i8 0)], [], places) :=
  ⟨[], by kernel_rfl⟩

set_option maxRecDepth 100000 in
theorem Kl.roots_lifted (os : Os) (started : os.Started) (H : Type) (enc : TypeId × Value → H) (F : Stop.Interp) :
    ReturnsInHanded {} Tryz.checked os 8 .any ((OpenSpec.ofChange Rows.integerRootsSpec).preRow enc Tryz.prog Tryz.f8 Rows.integerRootsRow.domain false Rows.integerRootsRow.laid) (((OpenSpec.ofChange Rows.integerRootsSpec).at F).post enc Tryz.prog Tryz.f8 false true false false) := by
  obtain ⟨places, hx⟩ := Kl.roots_reads os enc
  refine returnsInHanded_of_row (C := Tryz.checked) (s := OpenSpec.ofChange Rows.integerRootsSpec) own started (by kernel_rfl) Tryz.func8
    (witness_row_atRef (enc := enc) (C := Tryz.checked) false (laidWorld os) #[.agg #[.bool false, .slice none 0 0], .int .i8 0] rfl (by kernel_rfl) (by kernel_rfl) (by kernel_rfl)
      (OpenSpec.preRow_of_cond 8 hx (by kernel_rfl) (fun k hk => by cases hk) (by kernel_rfl) (Kl.roots_laid_met os _))) ?_
  intro W base args ds gs before hval hW _ _ _ hL _ _
  exact Kl.roots_contract H enc W base args ds gs before hval hW hL

theorem Kl.roots_said : Rows.IntegerRootsSaid :=
  OpenClaim.holds_of_cond 8 Tryz.f8 rfl rfl rfl rfl rfl rfl rfl ⟨rfl, rfl, rfl, rfl, rfl⟩ rfl rfl rfl rfl rfl (by kernel_rfl) Tryz.func8 (by kernel_rfl)
    (of_decide_eq_true (by kernel_rfl)) (by unfold Func.isWrapper; first | (rw [if_pos (by decide +kernel)]; kernel_rfl) | (rw [if_neg (by decide +kernel)]; exact ⟨rfl, rfl⟩))
    (fun os started H enc _ F => by rw [OpenClaim.pre_eq_preRow]; exact Kl.roots_lifted os started H enc F)

/-- No parameter wants a stand-in; the program's own looks: what the card asks. -/
theorem Kl.roots_plain (f : FuncId) (fn : Func) (hf : Tryz.pinned.checked.prog.funcNamed "klippe/klippelaw01.IntegerRoots" = some f) (hfn : Tryz.pinned.checked.prog.funcs[f]? = some fn) :
    true = Tryz.pinned.checked.prog.looks [] ∧ ∀ (j : Nat) t, fn.params[j]? = some t → Tryz.pinned.checked.prog.wantsStandIn t = false := by
  obtain rfl : f = 8 := Option.some.inj ((show Tryz.prog.funcNamed "klippe/klippelaw01.IntegerRoots" = some 8 by kernel_rfl).symm.trans hf) |>.symm
  obtain rfl : fn = Tryz.f8 := (Option.some.inj (Tryz.func8.symm.trans hfn)).symm
  refine ⟨by kernel_rfl, fun j t ht => ?_⟩
  rw [Tryz.params8] at ht
  have hw0 : Tryz.prog.wantsStandIn 41 = false := by kernel_rfl
  have hw1 : Tryz.prog.wantsStandIn 24 = false := by kernel_rfl
  have := Array.mem_of_getElem? ht
  simp at this
  rcases this with rfl | rfl
  · exact hw1
  · exact hw0

/-- ████ THE CARD ████ -/
theorem integerRoots_card : Rows.IntegerRootsCardSaid :=
  Claim7.holds_tied_plain_at .later [] _ _ _ _ Kl.roots_said (fun _ h => by cases h) (by kernel_rfl) (fun _ h => by cases h) integerRoots_row_tie rfl ⟨rfl, rfl⟩ (by kernel_rfl) rfl Kl.roots_plain (by kernel_rfl)
end Go.Proofs.YtkekdcmonenciaaGreatDoor
