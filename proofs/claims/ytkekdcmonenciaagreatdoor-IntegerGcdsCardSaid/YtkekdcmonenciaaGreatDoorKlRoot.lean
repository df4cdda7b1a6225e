/- Contracts: Root, at the chapter's own example: the root of 99 is 9. -/
import Derived.Test.YtkekdcmonenciaaGreatDoorKlInt3
namespace Go.Proofs.YtkekdcmonenciaaGreatDoor.Kl
open Go Go.RowKit

set_option maxHeartbeats 1000000 in
theorem trim_one (b : Nat) (x : Int) (w : World) (hc : w.cell? ⟨b, 0, none⟩ = some (.int .i64 x)) (hx : (x == 0) = false) :
    Calls Tryz.prog 78 #[.slice (some ⟨b, 0, none⟩) 1 1] w fun e w' => e = .returned (.slice (some ⟨b, 0, none⟩) 1 1) ∧ w = w' := by
  go_enter Tryz.func78, Tryz.ntmps78
  go_wp2
  refine wp_loop_rounds 1 ?_
  rw [rounds_succ]
  go_wp2
  go_ret
  exact ⟨rfl, rfl⟩

set_option maxHeartbeats 1000000 in
theorem split99 (w : World) :
    Calls Tryz.prog 69 #[.string ⟨#[57, 57]⟩] w fun e w' => e = .returned (.slice (some ⟨w.heap.size, 0, none⟩) 1 1) ∧ w'.cell? ⟨w.heap.size, 0, none⟩ = some (.int .i64 99) ∧ w.heap.size < w'.heap.size ∧ Below w.heap.size w w' := by
  have hmk : ∀ w, (Instr.makeSlice 52 (.int .i64 0) (.int .i64 1)).run Tryz.prog w = .ok (.slice (some ⟨w.heap.size, 0, none⟩) 0 1) (w.alloc (.cells #[.int .i64 0] 3)) := fun _ => by kernel_rfl
  have hmx : max (0 : Int) (-7) = 0 := by decide
  have c0 : ∀ h, (⟨#[57, 57]⟩ : ByteArray)[0]'h = 57 := fun _ => rfl
  have c1 : ∀ h, (⟨#[57, 57]⟩ : ByteArray)[1]'h = 57 := fun _ => rfl
  go_enter Tryz.func69, Tryz.ntmps69
  go_wp2
  refine wp_loop_rounds 2 ?_
  rw [rounds_succ]
  go_wp2
  refine wp_loop_rounds 3 ?_
  rw [rounds_succ]
  go_wp2
  rw [rounds_succ]
  go_wp2
  rw [rounds_succ]
  go_wp2
  rw [rounds_succ]
  go_wp2_with (fail)

  refine (trim_one _ 99 _ ?c1 rfl).mono ?_
  case c1 => simp [go_sem]
  rintro e w1 ⟨rfl, rfl⟩
  go_wp2
  go_ret
  refine ⟨rfl, ?_, ?_, ?_⟩
  · simp [go_sem]
  · simp only [World.size_alloc]; omega
  · exact ((Below.refl _ _).alloc (Nat.le_refl _) _).alloc (by simp) _

theorem len99 (w : World) :
    Calls Tryz.prog 80 #[.int .u64 99] w fun e w' => e = .returned (.int .i64 7) ∧ w = w' :=
  (Tryz.bits_Len 99 w (by omega) (by omega)).mono fun _ _ ⟨h, k⟩ => ⟨h.trans (retI (by decide)), k.symm⟩
set_option maxHeartbeats 1000000 in
theorem rootInt99 (w : World) :
    Calls Tryz.prog 88 #[.int .i64 99] w fun e w' => e = .returned (.int .i64 9) ∧ w = w' := by
  go_enter Tryz.func88, Tryz.ntmps88
  go_wp2_with (go_at_call 80; refine (len99 _).mono ?_; rintro e w' ⟨rfl, rfl⟩)
  refine wp_loop_rounds 4 ?_
  rw [rounds_succ]
  go_wp2
  rw [rounds_succ]
  go_wp2
  rw [rounds_succ]
  go_wp2
  rw [rounds_succ]
  go_wp2
  go_ret
  exact ⟨rfl, rfl⟩
end Go.Proofs.YtkekdcmonenciaaGreatDoor.Kl
