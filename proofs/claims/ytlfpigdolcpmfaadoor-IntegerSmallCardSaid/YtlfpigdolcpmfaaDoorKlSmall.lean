/- klippelaw01.IntegerSmall returns true for every description of an integer (a bool and a slice of bytes), and leaves it as it was, whatever memory and schedule; the package-level variables of Go's library that its row lists start as the library's text lays them. -/
import Derived.Test.YtlfpigdolcpmfaaDoorCards
import Derived.Test.YtlfpigdolcpmfaaDoorTie
import Derived.Test.YtlfpigdolcpmfaaDoorKlEnv
import Derived.Test.YtlfpigdolcpmfaaDoorKlLawSmall
import Derived.OpenShut
import Derived.Lib.SmallJoins
namespace Go.Proofs.YtlfpigdolcpmfaaDoor
open Go.ChangeShapes Go.WideShapes Go.ChangeAt Go.RowKit
open Go.ChangeMaps (open_string shut_string)
open Kl (own laidWorld laid_met env_of)

theorem Kl.laidOut : laidOutB Tryd.prog = true := by kernel_rfl

set_option maxRecDepth 100000 in
theorem Kl.small_contract (H : Type) (enc : TypeId × Value → H) (W : World) (base : Nat) (args : Array Value) (ds gs : List (DataW H)) (before : List MemPlace)
    (hval : ∀ (j : Nat) t v, Tryd.f4.params[j]? = some t → args[j]? = some v → Value.okWide Tryd.prog W .any base t v)
    (hW : DataW.Whole enc Tryd.prog Tryd.f4.params.toList Rows.integerSmallSpec.vars false W args.toList ds gs before) (hL : laidMetH Tryd.prog Rows.integerSmallRow.laid W) :
    Calls Tryd.prog 4 args W fun e W' => ∃ v, e = .returned v ∧ Rows.integerSmallSpec.post enc Tryd.prog Tryd.f4 false true false false W args v W' := by
  have hW' := hW
  obtain ⟨p, q, hA0, hV, rfl, hfz, hnd⟩ := hW
  have hA : DataW.TrodAll enc Tryd.prog W 0 (fun _ => true) true Tryd.f4.params.toList args.toList ds p := hA0
  rw [Tryd.params4] at hA hval
  obtain ⟨v0, d0, rfl, rfl, h0⟩ := trodAll_one hA
  obtain ⟨rfl, rfl⟩ := trodVars_none hV
  have hlt := hW'.lt
  rw [List.append_nil] at hlt
  obtain ⟨c0, c1, y0, y1, m, hv0, hd0, hp0, hy0, hy1⟩ := Joins.open_agg2 Tryd.underlying33 (by kernel_rfl) (by kernel_rfl) (hval 0 33 v0 rfl rfl) h0
  obtain ⟨bb, e0, _⟩ := DataW.trod_bool Tryd.underlying4 hy0
  obtain rfl : c0 = .bool bb := by simpa using e0
  have E := env_of hL
  have walk : Calls Tryd.prog 4 #[v0] W fun e W' => e = .returned (.bool true) ∧ Below W.heap.size W W' := by
    rw [hv0]
    rcases open_ints Tryd.underlying31 Tryd.underlying5 (by kernel_rfl) hy1 with ⟨hcs, _⟩ | ⟨a, len, cap, zs, hcs, _, hl, hm, hz, _, hcell, hwf⟩
    · obtain rfl : c1 = .slice none 0 0 := by simpa using hcs
      exact Kl.lawSmall bb none 0 0 [] rfl (by decide) W E (fun w' _ => Kl.make_none bb none 0 24 w')
    · obtain rfl : c1 = .slice (some a) len cap := by simpa using hcs
      by_cases h0 : len = 0
      · subst h0
        exact Kl.lawSmall bb (some a) 0 cap [] rfl (by decide) W E (fun w' _ => Kl.make_none bb (some a) cap 24 w')
      · have hzl : zs.length = cap := by simpa using hz
        obtain ⟨blk, off, rfl, hc⟩ := ints_at hcell (by omega)
        have hb0 : W.cell? ⟨blk, off + 0, none⟩ = some (.int .u8 (zs[0]?.getD 0)) := by
          have h2 := hc 0 (by omega); rw [List.getD_eq_getElem?_getD] at h2; exact h2
        have hblk : blk < W.heap.size := Lib.lt_of_cell hb0
        refine Kl.lawSmall bb (some ⟨blk, off, none⟩) len cap (Kl.dgs zs (min len 24)) (Kl.dgs_dig _ _) (by rw [Kl.dgs_length]; omega) W E (fun w' hb => ?_)
        refine Kl.make_some bb blk off len cap 24 zs (by decide) (by unfold maxLen at hm; omega) w' (Nat.lt_of_lt_of_le hblk hb.size) (range_u8 hwf) (fun j hj => ?_)
        rw [hb.cell (p := ⟨blk, off + j, none⟩) hblk]
        have h2 := hc j (by omega)
        rw [List.getD_eq_getElem?_getD] at h2; exact h2
  refine walk.mono fun e W' ⟨he, hb⟩ => ?_
  subst he
  exact ⟨_, rfl, _, _, _, [], p, [], hW', trodAll_mk1 (shut_bool Tryd.underlying4 true), trodAll_mk1 (hb.trod Kl.laidOut (by kernel_rfl) (by decide +kernel) h0 hlt), rfl, hb.frame _, fun h => by cases h⟩

theorem Kl.small_reads (os : Os) {H : Type} (enc : TypeId × Value → H) : ∃ places, DataW.whole enc Tryd.prog ((laidWorld os).forCall (fun _ _ => 0) ⟨#[], #[.agg #[.bool false, .slice none 0 0]], []⟩).memory Tryd.f4.params.toList Rows.integerSmallSpec.vars false #[Value.agg #[.bool false, .slice none 0 0]].toList 8 = some ([.agg [.lit (.bool false), .nil]], [], places) :=
  ⟨[], by kernel_rfl⟩

set_option maxRecDepth 100000 in
theorem Kl.small_lifted (os : Os) (started : os.Started) (H : Type) (enc : TypeId × Value → H) (F : Stop.Interp) :
    ReturnsInHanded {} Tryd.checked os 4 .any ((OpenSpec.ofChange Rows.integerSmallSpec).preRow enc Tryd.prog Tryd.f4 Rows.integerSmallRow.domain false Rows.integerSmallRow.laid) (((OpenSpec.ofChange Rows.integerSmallSpec).at F).post enc Tryd.prog Tryd.f4 false true false false) := by
  obtain ⟨places, hx⟩ := Kl.small_reads os enc
  refine returnsInHanded_of_row (C := Tryd.checked) (s := OpenSpec.ofChange Rows.integerSmallSpec) own started (by kernel_rfl) Tryd.func4
    (witness_row_atRef (enc := enc) (C := Tryd.checked) false (laidWorld os) #[.agg #[.bool false, .slice none 0 0]] rfl (by kernel_rfl) (by kernel_rfl) (by kernel_rfl)
      (OpenSpec.preRow_of_cond 8 hx (by kernel_rfl) (fun k hk => by cases hk) (by kernel_rfl) (laid_met os _))) ?_
  intro W base args ds gs before hval hW _ _ _ hL _ _
  exact Kl.small_contract H enc W base args ds gs before hval hW hL

theorem Kl.small_said : Rows.IntegerSmallSaid :=
  OpenClaim.holds_of_cond 4 Tryd.f4 rfl rfl rfl rfl rfl rfl rfl ⟨rfl, rfl, rfl, rfl, rfl⟩ rfl rfl rfl rfl rfl (by kernel_rfl) Tryd.func4 (by kernel_rfl)
    (of_decide_eq_true (by kernel_rfl)) (by unfold Func.isWrapper; first | (rw [if_pos (by decide +kernel)]; kernel_rfl) | (rw [if_neg (by decide +kernel)]; exact ⟨rfl, rfl⟩))
    (fun os started H enc _ F => by rw [OpenClaim.pre_eq_preRow]; exact Kl.small_lifted os started H enc F)

/-- No parameter wants a stand-in; the program's own looks: what the card asks. -/
theorem Kl.small_plain (f : FuncId) (fn : Func) (hf : Tryd.pinned.checked.prog.funcNamed "klippe/klippelaw01.IntegerSmall" = some f) (hfn : Tryd.pinned.checked.prog.funcs[f]? = some fn) :
    true = Tryd.pinned.checked.prog.looks [] ∧ ∀ (j : Nat) t, fn.params[j]? = some t → Tryd.pinned.checked.prog.wantsStandIn t = false := by
  obtain rfl : f = 4 := Option.some.inj ((show Tryd.prog.funcNamed "klippe/klippelaw01.IntegerSmall" = some 4 by kernel_rfl).symm.trans hf) |>.symm
  obtain rfl : fn = Tryd.f4 := (Option.some.inj (Tryd.func4.symm.trans hfn)).symm
  refine ⟨by kernel_rfl, fun j t ht => ?_⟩
  rw [Tryd.params4] at ht
  have h9 : Tryd.prog.wantsStandIn 33 = false := by kernel_rfl
  have := Array.mem_of_getElem? ht
  simp at this
  subst this
  exact h9

/-- ████ THE CARD ████ -/
theorem integerSmall_card : Rows.IntegerSmallCardSaid :=
  Claim7.holds_tied_plain_at .later [] _ _ _ _ Kl.small_said (fun _ h => by cases h) (by kernel_rfl) (fun _ h => by cases h) integerSmall_row_tie rfl ⟨rfl, rfl⟩ (by kernel_rfl) rfl Kl.small_plain (by kernel_rfl)
end Go.Proofs.YtlfpigdolcpmfaaDoor
