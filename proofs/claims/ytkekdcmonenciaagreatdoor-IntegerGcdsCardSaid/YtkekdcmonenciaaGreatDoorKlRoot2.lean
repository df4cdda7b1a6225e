/- Contracts: Root at 99, from end to end. -/
import Derived.Test.YtkekdcmonenciaaGreatDoorKlRoot
import Derived.Test.YtkekdcmonenciaaGreatDoorKlText
import Derived.Test.YtkekdcmonenciaaGreatDoorKlParse
import Derived.Test.YtkekdcmonenciaaGreatDoorKlKnown1
namespace Go.Proofs.YtkekdcmonenciaaGreatDoor.Kl
open Go Go.RowKit

def s99 : ByteArray := ⟨#[57, 57]⟩

theorem magnitude99 (w : World) : Calls Tryz.prog 51 #[.string ⟨#[57, 57]⟩] w fun e w' => e = .returned (.string ⟨#[57, 57]⟩) ∧ w = w' :=
  (magnitude_any ⟨#[57, 57]⟩ w).mono fun _ _ ⟨h, k⟩ => ⟨h.trans (retS rfl), k⟩
theorem isDigits99 (w : World) : Calls Tryz.prog 66 #[.string ⟨#[57, 57]⟩] w fun e w' => e = .returned (.bool true) ∧ w = w' :=
  isDigits_is ⟨#[57, 57]⟩ w (by decide) true (by decide)

set_option maxHeartbeats 1000000 in
theorem read99 (w : World) :
    Calls Tryz.prog 38 #[.string ⟨#[57, 57]⟩] w fun e w' => ∃ b, e = .returned (.agg #[.bool false, .slice (some ⟨b, 0, none⟩) 1 1]) ∧ w'.cell? ⟨b, 0, none⟩ = some (.int .i64 99) ∧ b < w'.heap.size ∧ Below w.heap.size w w' := by
  go_enter Tryz.func38, Tryz.ntmps38
  go_wp2_with (first | (go_at_call 51; refine (magnitude99 _).mono ?_; rintro e w1 ⟨rfl, rfl⟩) | (go_at_call 66; refine (isDigits99 _).mono ?_; rintro e w1 ⟨rfl, rfl⟩) | (go_at_call 69; refine (split99 _).mono ?_; rintro e w2 ⟨rfl, hc2, hs2, hb2⟩; refine Hid.out ?_))
  refine Lib.hid ?_
  have a0 : w2.heap[w.heap.size]? = some (Obj.cells #[Value.bool false, Value.slice none 0 0] 54) := (hb2.block _ (by simp)).trans (World.alloc_heap_new w _)
  have e0 : w2.cell? ⟨w.heap.size, 0, none⟩ = some (Value.bool false) := cell_at a0
  have e1 : w2.cell? ⟨w.heap.size, 1, none⟩ = some (Value.slice none 0 0) := cell_at a0
  have g0 : w2.frozen? ⟨w.heap.size, 0, none⟩ = false := free_at a0
  have g1 : w2.frozen? ⟨w.heap.size, 1, none⟩ = false := free_at a0
  have A0 := Lib.hid a0
  clear a0
  go_wp2
  refine bodyPost_ret (v := .agg #[.bool false, .slice (some ⟨w.heap.size + 1, 0, none⟩) 1 1]) (by simp [results, Tryz.results38, go_sem, e0, e1]) rfl ⟨w.heap.size + 1, rfl, ?_, ?_, ?_⟩
  · rw [World.cell?_setCell_other _ _ _ _ (by simp), World.cell?_setCell_other _ _ _ _ (by simp)]; simpa using hc2
  · simp only [World.size_setCell]; simpa using hs2
  · exact (((Below.refl _ _).alloc (Nat.le_refl _) _).trans (hb2.mono (by simp))).setCell (Nat.le_refl _) _ |>.setCell (Nat.le_refl _) _

set_option maxHeartbeats 1000000 in
theorem value99 (b : Nat) (w : World) (hc : w.cell? ⟨b, 0, none⟩ = some (.int .i64 99)) :
    Calls Tryz.prog 86 #[.slice (some ⟨b, 0, none⟩) 1 1] w fun e w' => e = .returned (.int .i64 99) ∧ w = w' := by
  go_enter Tryz.func86, Tryz.ntmps86
  go_wp2
  go_ret
  exact ⟨rfl, rfl⟩

set_option maxHeartbeats 1000000 in
theorem proot99 (b : Nat) (w : World) (hc : w.cell? ⟨b, 0, none⟩ = some (.int .i64 99)) :
    Calls Tryz.prog 61 #[.slice (some ⟨b, 0, none⟩) 1 1] w fun e w' => e = .returned (.slice (some ⟨w.heap.size, 0, none⟩) 1 1) ∧ w'.cell? ⟨w.heap.size, 0, none⟩ = some (.int .i64 9) ∧ w.heap.size < w'.heap.size ∧ Below w.heap.size w w' := by
  go_enter Tryz.func61, Tryz.ntmps61
  go_wp2_with (first | (go_at_call 86; refine (value99 _ _ hc).mono ?_; rintro e w1 ⟨rfl, rfl⟩) | (go_at_call 88; refine (rootInt99 _).mono ?_; rintro e w1 ⟨rfl, rfl⟩) | (go_at_call 78; refine (trim_one _ 9 _ ?c1 rfl).mono ?_; rotate_left; rintro e w1 ⟨rfl, rfl⟩))
  · go_ret
    exact ⟨rfl, by simp [go_sem], by simp, (Below.refl _ _).alloc (Nat.le_refl _) _⟩
  · simp [go_sem]

set_option maxRecDepth 100000 in
set_option maxHeartbeats 1000000 in
theorem sign99 (w : World) : Calls Tryz.prog 31 #[.string ⟨#[57, 57]⟩] w fun e w' => e = .returned (.int .i64 1) ∧ w = w' := by
  have c0 : ∀ h, (⟨#[57, 57]⟩ : ByteArray)[0]'h = 57 := fun _ => rfl
  go_enter Tryz.func31, Tryz.ntmps31
  go_wp2
  go_ret
  exact ⟨rfl, rfl⟩

set_option maxRecDepth 100000 in
set_option maxHeartbeats 1000000 in
theorem root99 (w : World) (E : Env w) :
    Calls Tryz.prog 27 #[.string ⟨#[57, 57]⟩] w fun e w' => e = .returned (.tuple #[.string (itoaB 9), .int .i64 0]) ∧ Below w.heap.size w w' := by
  have hfield : ∀ (p : Option Addr) (n c : Nat) (w : World), (Instr.field 54 (.agg #[.bool false, .slice p n c]) 1).run Tryz.prog w = .ok (.slice p n c) w := fun _ _ _ _ => by kernel_rfl
  go_enter Tryz.func27, Tryz.ntmps27
  go_wp2_with (first | (go_at_call 31; refine (sign99 _).mono ?_; rintro e w1 ⟨rfl, rfl⟩) | (go_at_call 38; refine (read99 _).mono ?_; rintro e w2 ⟨b, rfl, hc2, hs2, hb2⟩; refine Hid.out ?_))
  refine Lib.hid ?_
  go_wp2_with (go_at_call 61; refine (proot99 _ _ hc2).mono ?_; rintro e w3 ⟨rfl, hc3, hs3, hb3⟩; refine Hid.out ?_)
  refine Lib.hid ?_
  have hb := hb2.trans (hb3.mono hb2.size)
  go_wp2_with (go_at_call 40; refine (chain hb (text1 _ 9 (by omega) (by omega) _ (E.below hb) hs3 hc3)).mono ?_; clear hb hb2 hb3 hc2 hc3 hs2 hs3; rintro e w4 ⟨rfl, hb⟩)
  go_ret2
  exact ⟨rfl, hb⟩

/-- The chapter's examples: every one as it says. -/
theorem known_divMod (w : World) (E : Env w) : Calls Tryz.prog 22 #[.string ⟨#[55]⟩, .string ⟨#[45, 50]⟩] w fun e w' => e = .returned (.tuple #[.string ⟨#[45, 51]⟩, .string ⟨#[49]⟩, .int .i64 0]) ∧ Below w.heap.size w w' :=
  (divMod_short ⟨#[55]⟩ ⟨#[45, 50]⟩ w (by decide) (by decide) 7 (-2) (by decide) (by decide) E (by decide) (by decide) (by decide) (by decide) (by decide)).mono fun _ _ ⟨h, k⟩ => ⟨h.trans (retSSI (by decide +kernel) (by decide +kernel) rfl), k⟩
end Go.Proofs.YtkekdcmonenciaaGreatDoor.Kl
