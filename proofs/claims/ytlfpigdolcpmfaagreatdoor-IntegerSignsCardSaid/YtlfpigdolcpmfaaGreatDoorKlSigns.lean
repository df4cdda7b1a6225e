/- klippelaw01.IntegerSigns returns true for every two descriptions of integers (a bool and a slice of bytes each), and leaves them as they were, whatever memory and schedule; the package-level variables of Go's library that its row lists start as the library's text lays them. -/
import Derived.Test.YtlfpigdolcpmfaaGreatDoorCards
import Derived.Test.YtlfpigdolcpmfaaGreatDoorTie
import Derived.Test.YtlfpigdolcpmfaaGreatDoorKlEnv
import Derived.Test.YtlfpigdolcpmfaaGreatDoorKlLawSigns
import Derived.OpenShut
import Derived.Lib.SmallJoins
namespace Go.Proofs.YtlfpigdolcpmfaaGreatDoor
open Go.ChangeShapes Go.WideShapes Go.ChangeAt Go.RowKit
open Go.ChangeMaps (open_string shut_string)
open Kl (own laidWorld laid_met env_of)

theorem Kl.laidOut : laidOutB Tryz.prog = true := by kernel_rfl

set_option maxRecDepth 100000 in
/-- A description among the arguments: what it is, and what Make gives of it. -/
theorem Kl.arg_make {H : Type} {enc : TypeId × Value → H} {W : World} {base N : Nat} (hN : N ≤ 200) {v0 : Value} {d0 : DataW H} {ps : List MemPlace} (hok : Value.okWide Tryz.prog W .any base 24 v0)
    (h0 : DataW.Trod enc Tryz.prog W 0 (fun _ => true) true 24 v0 d0 ps) :
    ∃ (b : Bool) (p : Option Addr) (n c : Nat) (l : List UInt8), v0 = .agg #[.bool b, .slice p n c] ∧ l.all Kl.isDig = true ∧ l.length ≤ 200 ∧
      ∀ w', Below W.heap.size W w' → Calls Tryz.prog 13 #[.agg #[.bool b, .slice p n c], .int .i64 N] w' fun e w'' => e = .returned (.string (Kl.strOf (Kl.makeS b l))) ∧ Below w'.heap.size w' w'' := by
  obtain ⟨c0, c1, y0, y1, m, hv0, hd0, hp0, hy0, hy1⟩ := Joins.open_agg2 Tryz.underlying24 (by kernel_rfl) (by kernel_rfl) hok h0
  obtain ⟨bb, e0, _⟩ := DataW.trod_bool Tryz.underlying4 hy0
  obtain rfl : c0 = .bool bb := by simpa using e0
  rcases open_ints Tryz.underlying22 Tryz.underlying5 (by kernel_rfl) hy1 with ⟨hcs, _⟩ | ⟨a, len, cap, zs, hcs, _, hl, hm, hz, _, hcell, hwf⟩
  · obtain rfl : c1 = .slice none 0 0 := by simpa using hcs
    exact ⟨bb, none, 0, 0, [], hv0, rfl, by decide, fun w' _ => Kl.make_none bb none 0 N w'⟩
  · obtain rfl : c1 = .slice (some a) len cap := by simpa using hcs
    by_cases h0 : len = 0
    · subst h0
      exact ⟨bb, some a, 0, cap, [], hv0, rfl, by decide, fun w' _ => Kl.make_none bb (some a) cap N w'⟩
    · have hzl : zs.length = cap := by simpa using hz
      obtain ⟨blk, off, rfl, hc⟩ := ints_at hcell (by omega)
      have hb0 : W.cell? ⟨blk, off + 0, none⟩ = some (.int .u8 (zs[0]?.getD 0)) := by
        have h2 := hc 0 (by omega); rw [List.getD_eq_getElem?_getD] at h2; exact h2
      have hblk : blk < W.heap.size := Lib.lt_of_cell hb0
      refine ⟨bb, some ⟨blk, off, none⟩, len, cap, Kl.dgs zs (min len N), hv0, Kl.dgs_dig _ _, by rw [Kl.dgs_length]; omega, fun w' hb => ?_⟩
      refine Kl.make_some bb blk off len cap N zs hN (by unfold maxLen at hm; omega) w' (Nat.lt_of_lt_of_le hblk hb.size) (range_u8 hwf) (fun j hj => ?_)
      rw [hb.cell (p := ⟨blk, off + j, none⟩) hblk]
      have h2 := hc j (by omega)
      rw [List.getD_eq_getElem?_getD] at h2; exact h2

set_option maxRecDepth 100000 in
theorem Kl.signs_contract (H : Type) (enc : TypeId × Value → H) (W : World) (base : Nat) (args : Array Value) (ds gs : List (DataW H)) (before : List MemPlace)
    (hval : ∀ (j : Nat) t v, Tryz.f3.params[j]? = some t → args[j]? = some v → Value.okWide Tryz.prog W .any base t v)
    (hW : DataW.Whole enc Tryz.prog Tryz.f3.params.toList Rows.integerSignsSpec.vars false W args.toList ds gs before) (hL : laidMetH Tryz.prog Rows.integerSignsRow.laid W) :
    Calls Tryz.prog 3 args W fun e W' => ∃ v, e = .returned v ∧ Rows.integerSignsSpec.post enc Tryz.prog Tryz.f3 false true false false W args v W' := by
  have hW' := hW
  obtain ⟨p, q, hA0, hV, rfl, hfz, hnd⟩ := hW
  have hA : DataW.TrodAll enc Tryz.prog W 0 (fun _ => true) true Tryz.f3.params.toList args.toList ds p := hA0
  rw [Tryz.params3] at hA hval
  obtain ⟨v0, v1, d0, d1, p0, p1, rfl, rfl, rfl, h0, h1⟩ := trodAll_two hA
  obtain ⟨rfl, rfl⟩ := trodVars_none hV
  have hlt := hW'.lt
  rw [List.append_nil] at hlt
  obtain ⟨b0, q0, n0, c0, l0, e0, hd0, hl0, m0⟩ := Kl.arg_make (N := 70) (by decide) (hval 0 24 v0 rfl rfl) h0
  obtain ⟨b1, q1, n1, c1, l1, e1, hd1, hl1, m1⟩ := Kl.arg_make (N := 70) (by decide) (hval 1 24 v1 rfl rfl) h1
  have E := env_of hL
  have walk : Calls Tryz.prog 3 #[v0, v1] W fun e W' => e = .returned (.bool true) ∧ Below W.heap.size W W' := by
    rw [e0, e1]
    exact Kl.lawSigns b0 b1 q0 q1 n0 c0 n1 c1 l0 l1 hd0 hd1 hl0 hl1 W E m0 m1
  refine walk.mono fun e W' ⟨he, hb⟩ => ?_
  subst he
  exact ⟨_, rfl, _, _, _, [], p0 ++ p1, [], hW', trodAll_mk1 (shut_bool Tryz.underlying4 true), trodAll_mk2 (hb.trod Kl.laidOut (by kernel_rfl) (by decide +kernel) h0 (fun x hx => hlt x (List.mem_append_left _ hx))) (hb.trod Kl.laidOut (by kernel_rfl) (by decide +kernel) h1 (fun x hx => hlt x (List.mem_append_right _ hx))), rfl, hb.frame _, fun h => by cases h⟩

theorem Kl.signs_reads (os : Os) {H : Type} (enc : TypeId × Value → H) : ∃ places, DataW.whole enc Tryz.prog ((laidWorld os).forCall (fun _ _ => 0) ⟨#[], #[.agg #[.bool false, .slice none 0 0], .agg #[.bool false, .slice none 0 0]], []⟩).memory Tryz.f3.params.toList Rows.integerSignsSpec.vars false #[Value.agg #[.bool false, .slice none 0 0], Value.agg #[.bool false, .slice none 0 0]].toList 8 = some ([.agg [.lit (.bool false), .nil], .agg [.lit (.bool false), .nil]], [], places) :=
  ⟨[], by kernel_rfl⟩

set_option maxRecDepth 100000 in
theorem Kl.signs_lifted (os : Os) (started : os.Started) (H : Type) (enc : TypeId × Value → H) (F : Stop.Interp) :
    ReturnsInHanded {} Tryz.checked os 3 .any ((OpenSpec.ofChange Rows.integerSignsSpec).preRow enc Tryz.prog Tryz.f3 Rows.integerSignsRow.domain false Rows.integerSignsRow.laid) (((OpenSpec.ofChange Rows.integerSignsSpec).at F).post enc Tryz.prog Tryz.f3 false true false false) := by
  obtain ⟨places, hx⟩ := Kl.signs_reads os enc
  refine returnsInHanded_of_row (C := Tryz.checked) (s := OpenSpec.ofChange Rows.integerSignsSpec) own started (by kernel_rfl) Tryz.func3
    (witness_row_atRef (enc := enc) (C := Tryz.checked) false (laidWorld os) #[.agg #[.bool false, .slice none 0 0], .agg #[.bool false, .slice none 0 0]] rfl (by kernel_rfl) (by kernel_rfl) (by kernel_rfl)
      (OpenSpec.preRow_of_cond 8 hx (by kernel_rfl) (fun k hk => by cases hk) (by kernel_rfl) (laid_met os _))) ?_
  intro W base args ds gs before hval hW _ _ _ hL _ _
  exact Kl.signs_contract H enc W base args ds gs before hval hW hL

theorem Kl.signs_said : Rows.IntegerSignsSaid :=
  OpenClaim.holds_of_cond 3 Tryz.f3 rfl rfl rfl rfl rfl rfl rfl ⟨rfl, rfl, rfl, rfl, rfl⟩ rfl rfl rfl rfl rfl (by kernel_rfl) Tryz.func3 (by kernel_rfl)
    (of_decide_eq_true (by kernel_rfl)) (by unfold Func.isWrapper; first | (rw [if_pos (by decide +kernel)]; kernel_rfl) | (rw [if_neg (by decide +kernel)]; exact ⟨rfl, rfl⟩))
    (fun os started H enc _ F => by rw [OpenClaim.pre_eq_preRow]; exact Kl.signs_lifted os started H enc F)

/-- No parameter wants a stand-in; the program's own looks: what the card asks. -/
theorem Kl.signs_plain (f : FuncId) (fn : Func) (hf : Tryz.pinned.checked.prog.funcNamed "klippe/klippelaw01.IntegerSigns" = some f) (hfn : Tryz.pinned.checked.prog.funcs[f]? = some fn) :
    true = Tryz.pinned.checked.prog.looks [] ∧ ∀ (j : Nat) t, fn.params[j]? = some t → Tryz.pinned.checked.prog.wantsStandIn t = false := by
  obtain rfl : f = 3 := Option.some.inj ((show Tryz.prog.funcNamed "klippe/klippelaw01.IntegerSigns" = some 3 by kernel_rfl).symm.trans hf) |>.symm
  obtain rfl : fn = Tryz.f3 := (Option.some.inj (Tryz.func3.symm.trans hfn)).symm
  refine ⟨by kernel_rfl, fun j t ht => ?_⟩
  rw [Tryz.params3] at ht
  have h9 : Tryz.prog.wantsStandIn 24 = false := by kernel_rfl
  have := Array.mem_of_getElem? ht
  simp at this
  rcases this with rfl | rfl <;> exact h9

/-- ████ THE CARD ████ -/
theorem integerSigns_card : Rows.IntegerSignsCardSaid :=
  Claim7.holds_tied_plain_at .later [] _ _ _ _ Kl.signs_said (fun _ h => by cases h) (by kernel_rfl) (fun _ h => by cases h) integerSigns_row_tie rfl ⟨rfl, rfl⟩ (by kernel_rfl) rfl Kl.signs_plain (by kernel_rfl)
end Go.Proofs.YtlfpigdolcpmfaaGreatDoor
