/- klippelaw01.IntegerGcds returns true for every three descriptions of integers (a bool and a slice of bytes each), and leaves them as they were, whatever memory and schedule; the package-level variables of Go's library that its row lists start as the library's text lays them. -/
import Derived.Test.YtkekdcmonenciaaGreatDoorCards
import Derived.Test.YtkekdcmonenciaaGreatDoorTie
import Derived.Test.YtkekdcmonenciaaGreatDoorKlArg
import Derived.Test.YtkekdcmonenciaaGreatDoorKlLawGcds
namespace Go.Proofs.YtkekdcmonenciaaGreatDoor
open Go.ChangeShapes Go.WideShapes Go.ChangeAt Go.RowKit
open Go.ChangeMaps (open_string shut_string)
open Kl (own laidWorld)
open Go.Lib

theorem Kl.gcds_laid_met (os : Os) (args : Array Value) : laidMet Tryz.prog Rows.integerGcdsRow.laid ((laidWorld os).forCall (fun _ _ => 0) ⟨#[], args, []⟩).memory :=
  (((Kl.pieceA os args).append (Kl.pieceB os args) (by kernel_rfl)).append (Kl.pieceC os args) (by kernel_rfl)).met
theorem Kl.gcds_env_of {W : World} (h : laidMet Tryz.prog Rows.integerGcdsRow.laid W) : Kl.Env W := by
  have h2 := h.tail.tail
  have h4 := h2.tail.tail
  refine ⟨tabIs_of_head Kl.gTab Kl.gTabT Tryz.underlying142 Tryz.underlying121 Kl.cells121 Kl.cells142 h2, ?_, ?_⟩
  · obtain ⟨a, s, hv, _⟩ := laid_sentinel h4.tail Kl.gSyn Kl.gSynT Tryz.underlying114 Kl.row156 Tryz.underlying156 Tryz.underlying158 rfl rfl Tryz.underlying9 Kl.cells158 Kl.cells9
    exact ⟨_, _, hv⟩
  · obtain ⟨a, s, hv, _⟩ := laid_sentinel h4 Kl.gRng Kl.gRngT Tryz.underlying114 Kl.row156 Tryz.underlying156 Tryz.underlying158 rfl rfl Tryz.underlying9 Kl.cells158 Kl.cells9
    exact ⟨_, _, hv⟩

set_option maxRecDepth 100000 in
theorem Kl.gcds_contract (H : Type) (enc : TypeId × Value → H) (W : World) (base : Nat) (args : Array Value) (ds gs : List (DataW H)) (before : List MemPlace)
    (hval : ∀ (j : Nat) t v, Tryz.f7.params[j]? = some t → args[j]? = some v → Value.okWide Tryz.prog W .any base t v)
    (hW : DataW.Whole enc Tryz.prog Tryz.f7.params.toList Rows.integerGcdsSpec.vars false W args.toList ds gs before) (hL : laidMetH Tryz.prog Rows.integerGcdsRow.laid W) :
    Calls Tryz.prog 7 args W fun e W' => ∃ v, e = .returned v ∧ Rows.integerGcdsSpec.post enc Tryz.prog Tryz.f7 false true false false W args v W' := by
  have hW' := hW
  obtain ⟨p, q, hA0, hV, rfl, hfz, hnd⟩ := hW
  have hA : DataW.TrodAll enc Tryz.prog W 0 (fun _ => true) true Tryz.f7.params.toList args.toList ds p := hA0
  rw [Tryz.params7] at hA hval
  obtain ⟨v0, v1, v2, d0, d1, d2, p0, p1, p2, rfl, rfl, rfl, h0, h1, h2⟩ := trodAll_three hA
  obtain ⟨rfl, rfl⟩ := trodVars_none hV
  have hlt := hW'.lt
  rw [List.append_nil] at hlt
  obtain ⟨b0, q0, n0, c0, l0, e0, hd0, hl0, m0⟩ := Kl.arg_make (N := 20) (by decide) (hval 0 24 v0 rfl rfl) h0
  obtain ⟨b1, q1, n1, c1, l1, e1, hd1, hl1, m1⟩ := Kl.arg_make (N := 20) (by decide) (hval 1 24 v1 rfl rfl) h1
  obtain ⟨b2, q2, n2, c2, l2, e2, hd2, hl2, m2⟩ := Kl.arg_make (N := 8) (by decide) (hval 2 24 v2 rfl rfl) h2
  have E := Kl.gcds_env_of hL
  have walk : Calls Tryz.prog 7 #[v0, v1, v2] W fun e W' => e = .returned (.bool true) ∧ Below W.heap.size W W' := by
    rw [e0, e1, e2]
    exact Kl.lawGcds b0 q0 n0 c0 l0 b1 q1 n1 c1 l1 b2 q2 n2 c2 l2 hd0 hl0 hd1 hl1 hd2 hl2 W E m0 m1 m2
  refine walk.mono fun e W' ⟨he, hb⟩ => ?_
  subst he
  exact ⟨_, rfl, _, _, _, [], p0 ++ p1 ++ p2, [], hW', trodAll_mk1 (shut_bool Tryz.underlying4 true), by rw [List.append_assoc]; exact trodAll_mk3 (hb.trod Kl.laidOut (by kernel_rfl) (by decide +kernel) h0 (fun x hx => hlt x (List.mem_append_left _ (List.mem_append_left _ hx)))) (hb.trod Kl.laidOut (by kernel_rfl) (by decide +kernel) h1 (fun x hx => hlt x (List.mem_append_left _ (List.mem_append_right _ hx)))) (hb.trod Kl.laidOut (by kernel_rfl) (by decide +kernel) h2 (fun x hx => hlt x (List.mem_append_right _ hx))), rfl, hb.frame _, fun h => by cases h⟩

theorem Kl.gcds_reads (os : Os) {H : Type} (enc : TypeId × Value → H) : ∃ places, DataW.whole enc Tryz.prog ((laidWorld os).forCall (fun _ _ => 0) ⟨#[], #[.agg #[.bool false, .slice none 0 0], .agg #[.bool false, .slice none 0 0], .agg #[.bool false, .slice none 0 0]], []⟩).memory Tryz.f7.params.toList Rows.integerGcdsSpec.vars false #[Value.agg #[.bool false, .slice none 0 0], Value.agg #[.bool false, .slice none 0 0], Value.agg #[.bool false, .slice none 0 0]].toList 8 = some ([.agg [.lit (.bool false), .nil], .agg [.lit (.bool false), .nil], .agg [.lit (.bool false), .nil]], [], places) :=
  ⟨[], by kernel_rfl⟩

set_option maxRecDepth 100000 in
theorem Kl.gcds_lifted (os : Os) (started : os.Started) (H : Type) (enc : TypeId × Value → H) (F : Stop.Interp) :
    ReturnsInHanded {} Tryz.checked os 7 .any ((OpenSpec.ofChange Rows.integerGcdsSpec).preRow enc Tryz.prog Tryz.f7 Rows.integerGcdsRow.domain false Rows.integerGcdsRow.laid) (((OpenSpec.ofChange Rows.integerGcdsSpec).at F).post enc Tryz.prog Tryz.f7 false true false false) := by
  obtain ⟨places, hx⟩ := Kl.gcds_reads os enc
  refine returnsInHanded_of_row (C := Tryz.checked) (s := OpenSpec.ofChange Rows.integerGcdsSpec) own started (by kernel_rfl) Tryz.func7
    (witness_row_atRef (enc := enc) (C := Tryz.checked) false (laidWorld os) #[.agg #[.bool false, .slice none 0 0], .agg #[.bool false, .slice none 0 0], .agg #[.bool false, .slice none 0 0]] rfl (by kernel_rfl) (by kernel_rfl) (by kernel_rfl)
      (OpenSpec.preRow_of_cond 8 hx (by kernel_rfl) (fun k hk => by cases hk) (by kernel_rfl) (Kl.gcds_laid_met os _))) ?_
  intro W base args ds gs before hval hW _ _ _ hL _ _
  exact Kl.gcds_contract H enc W base args ds gs before hval hW hL

theorem Kl.gcds_said : Rows.IntegerGcdsSaid :=
  OpenClaim.holds_of_cond 7 Tryz.f7 rfl rfl rfl rfl rfl rfl rfl ⟨rfl, rfl, rfl, rfl, rfl⟩ rfl rfl rfl rfl rfl (by kernel_rfl) Tryz.func7 (by kernel_rfl)
    (of_decide_eq_true (by kernel_rfl)) (by unfold Func.isWrapper; first | (rw [if_pos (by decide +kernel)]; kernel_rfl) | (rw [if_neg (by decide +kernel)]; exact ⟨rfl, rfl⟩))
    (fun os started H enc _ F => by rw [OpenClaim.pre_eq_preRow]; exact Kl.gcds_lifted os started H enc F)

/-- No parameter wants a stand-in; the program's own looks: what the card asks. -/
theorem Kl.gcds_plain (f : FuncId) (fn : Func) (hf : Tryz.pinned.checked.prog.funcNamed "klippe/klippelaw01.IntegerGcds" = some f) (hfn : Tryz.pinned.checked.prog.funcs[f]? = some fn) :
    true = Tryz.pinned.checked.prog.looks [] ∧ ∀ (j : Nat) t, fn.params[j]? = some t → Tryz.pinned.checked.prog.wantsStandIn t = false := by
  obtain rfl : f = 7 := Option.some.inj ((show Tryz.prog.funcNamed "klippe/klippelaw01.IntegerGcds" = some 7 by kernel_rfl).symm.trans hf) |>.symm
  obtain rfl : fn = Tryz.f7 := (Option.some.inj (Tryz.func7.symm.trans hfn)).symm
  refine ⟨by kernel_rfl, fun j t ht => ?_⟩
  rw [Tryz.params7] at ht
  have hw0 : Tryz.prog.wantsStandIn 24 = false := by kernel_rfl
  have := Array.mem_of_getElem? ht
  simp at this
  rcases this with rfl | rfl | rfl <;> exact hw0

/-- ████ THE CARD ████ -/
theorem integerGcds_card : Rows.IntegerGcdsCardSaid :=
  Claim7.holds_tied_plain_at .later [] _ _ _ _ Kl.gcds_said (fun _ h => by cases h) (by kernel_rfl) (fun _ h => by cases h) integerGcds_row_tie rfl ⟨rfl, rfl⟩ (by kernel_rfl) rfl Kl.gcds_plain (by kernel_rfl)
end Go.Proofs.YtkekdcmonenciaaGreatDoor
