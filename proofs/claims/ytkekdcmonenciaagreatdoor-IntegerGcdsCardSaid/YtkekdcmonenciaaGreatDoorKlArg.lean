/- A description among the arguments. -/
import Derived.Test.YtkekdcmonenciaaGreatDoorKlEnv
import Derived.Test.YtkekdcmonenciaaGreatDoorKlMadeI
import Derived.OpenShut
import Derived.Lib.SmallJoins
namespace Go.Proofs.YtkekdcmonenciaaGreatDoor
open Go.ChangeShapes Go.WideShapes Go.ChangeAt Go.RowKit
open Go.ChangeMaps (open_string shut_string)

theorem Kl.laidOut : laidOutB Tryz.prog = true := by kernel_rfl

set_option maxRecDepth 100000 in
/-- A description among the arguments: what it is, and what Make gives of it. -/
theorem Kl.arg_make {H : Type} {enc : TypeId × Value → H} {W : World} {base N : Nat} (hN : N ≤ 200) {v0 : Value} {d0 : DataW H} {ps : List MemPlace} (hok : Value.okWide Tryz.prog W .any base 24 v0)
    (h0 : DataW.Trod enc Tryz.prog W 0 (fun _ => true) true 24 v0 d0 ps) :
    ∃ (b : Bool) (p : Option Addr) (n c : Nat) (l : List UInt8), v0 = .agg #[.bool b, .slice p n c] ∧ l.all Kl.isDig = true ∧ l.length ≤ 200 ∧
      ∀ w', Below W.heap.size W w' → Calls Tryz.prog 12 #[.agg #[.bool b, .slice p n c], .int .i64 N] w' fun e w'' => e = .returned (.string (Kl.strOf (Kl.makeS b l))) ∧ Below w'.heap.size w' w'' := by
  obtain ⟨c0, c1, y0, y1, m, hv0, hd0, hp0, hy0, hy1⟩ := Joins.open_agg2 Tryz.underlying24 (by kernel_rfl) (by kernel_rfl) hok h0
  obtain ⟨bb, e0, _⟩ := DataW.trod_bool Tryz.underlying4 hy0
  obtain rfl : c0 = .bool bb := by simpa using e0
  rcases open_ints Tryz.underlying22 Tryz.underlying5 (by kernel_rfl) hy1 with ⟨hcs, _⟩ | ⟨a, len, cap, zs, hcs, _, hl, hm, hz, _, hcell, hwf⟩
  · obtain rfl : c1 = .slice none 0 0 := by simpa using hcs
    exact ⟨bb, none, 0, 0, [], hv0, rfl, by decide, fun w' _ => Kl.make_none bb none 0 N w'⟩
  · obtain rfl : c1 = .slice (some a) len cap := by simpa using hcs
    by_cases h0 : len = 0
    · subst h0
      exact ⟨bb, some a, 0, cap, [], hv0, rfl, by decide, fun w' _ => Kl.make_none bb (some a) cap N w'⟩
    · have hzl : zs.length = cap := by simpa using hz
      obtain ⟨blk, off, rfl, hc⟩ := ints_at hcell (by omega)
      have hb0 : W.cell? ⟨blk, off + 0, none⟩ = some (.int .u8 (zs[0]?.getD 0)) := by
        have h2 := hc 0 (by omega); rw [List.getD_eq_getElem?_getD] at h2; exact h2
      have hblk : blk < W.heap.size := Lib.lt_of_cell hb0
      refine ⟨bb, some ⟨blk, off, none⟩, len, cap, Kl.dgs zs (min len N), hv0, Kl.dgs_dig _ _, by rw [Kl.dgs_length]; omega, fun w' hb => ?_⟩
      refine Kl.make_some bb blk off len cap N zs hN (by unfold maxLen at hm; omega) w' (Nat.lt_of_lt_of_le hblk hb.size) (range_u8 hwf) (fun j hj => ?_)
      rw [hb.cell (p := ⟨blk, off + j, none⟩) hblk]
      have h2 := hc j (by omega)
      rw [List.getD_eq_getElem?_getD] at h2; exact h2
end Go.Proofs.YtkekdcmonenciaaGreatDoor
