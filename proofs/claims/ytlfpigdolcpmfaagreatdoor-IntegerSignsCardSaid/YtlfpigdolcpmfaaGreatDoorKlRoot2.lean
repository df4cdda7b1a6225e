/- Contracts: Root at 99, from end to end. -/
import Derived.Test.YtlfpigdolcpmfaaGreatDoorKlRoot
import Derived.Test.YtlfpigdolcpmfaaGreatDoorKlText
import Derived.Test.YtlfpigdolcpmfaaGreatDoorKlParse
import Derived.Test.YtlfpigdolcpmfaaGreatDoorKlKnown1
namespace Go.Proofs.YtlfpigdolcpmfaaGreatDoor.Kl
open Go Go.RowKit

def s99 : ByteArray := ⟨#[57, 57]⟩

theorem magnitude99 (w : World) : Calls Tryz.prog 43 #[.string ⟨#[57, 57]⟩] w fun e w' => e = .returned (.string ⟨#[57, 57]⟩) ∧ w = w' :=
  (magnitude_any ⟨#[57, 57]⟩ w).mono fun _ _ ⟨h, k⟩ => ⟨h.trans (retS rfl), k⟩
theorem isDigits99 (w : World) : Calls Tryz.prog 68 #[.string ⟨#[57, 57]⟩] w fun e w' => e = .returned (.bool true) ∧ w = w' :=
  isDigits_is ⟨#[57, 57]⟩ w (by decide) true (by decide)

set_option maxHeartbeats 1000000 in
theorem read99 (w : World) :
    Calls Tryz.prog 46 #[.string ⟨#[57, 57]⟩] w fun e w' => ∃ b, e = .returned (.agg #[.bool false, .slice (some ⟨b, 0, none⟩) 1 1]) ∧ w'.cell? ⟨b, 0, none⟩ = some (.int .i64 99) ∧ b < w'.heap.size ∧ Below w.heap.size w w' := by
  go_enter Tryz.func46, Tryz.ntmps46
  go_wp2_with (first | (go_at_call 43; refine (magnitude99 _).mono ?_; rintro e w1 ⟨rfl, rfl⟩) | (go_at_call 68; refine (isDigits99 _).mono ?_; rintro e w1 ⟨rfl, rfl⟩) | (go_at_call 74; refine (split99 _).mono ?_; rintro e w2 ⟨rfl, hc2, hs2, hb2⟩; refine Hid.out ?_))
  refine Lib.hid ?_
  have a0 : w2.heap[w.heap.size]? = some (Obj.cells #[Value.bool false, Value.slice none 0 0] 60) := (hb2.block _ (by simp)).trans (World.alloc_heap_new w _)
  have e0 : w2.cell? ⟨w.heap.size, 0, none⟩ = some (Value.bool false) := cell_at a0
  have e1 : w2.cell? ⟨w.heap.size, 1, none⟩ = some (Value.slice none 0 0) := cell_at a0
  have g0 : w2.frozen? ⟨w.heap.size, 0, none⟩ = false := free_at a0
  have g1 : w2.frozen? ⟨w.heap.size, 1, none⟩ = false := free_at a0
  have A0 := Lib.hid a0
  clear a0
  go_wp2
  refine bodyPost_ret (v := .agg #[.bool false, .slice (some ⟨w.heap.size + 1, 0, none⟩) 1 1]) (by simp [results, Tryz.results46, go_sem, e0, e1]) rfl ⟨w.heap.size + 1, rfl, ?_, ?_, ?_⟩
  · rw [World.cell?_setCell_other _ _ _ _ (by simp), World.cell?_setCell_other _ _ _ _ (by simp)]; simpa using hc2
  · simp only [World.size_setCell]; simpa using hs2
  · exact (((Below.refl _ _).alloc (Nat.le_refl _) _).trans (hb2.mono (by simp))).setCell (Nat.le_refl _) _ |>.setCell (Nat.le_refl _) _

set_option maxHeartbeats 1000000 in
theorem value99 (b : Nat) (w : World) (hc : w.cell? ⟨b, 0, none⟩ = some (.int .i64 99)) :
    Calls Tryz.prog 90 #[.slice (some ⟨b, 0, none⟩) 1 1] w fun e w' => e = .returned (.int .i64 99) ∧ w = w' := by
  go_enter Tryz.func90, Tryz.ntmps90
  go_wp2
  go_ret
  exact ⟨rfl, rfl⟩

set_option maxHeartbeats 1000000 in
theorem proot99 (b : Nat) (w : World) (hc : w.cell? ⟨b, 0, none⟩ = some (.int .i64 99)) :
    Calls Tryz.prog 67 #[.slice (some ⟨b, 0, none⟩) 1 1] w fun e w' => e = .returned (.slice (some ⟨w.heap.size, 0, none⟩) 1 1) ∧ w'.cell? ⟨w.heap.size, 0, none⟩ = some (.int .i64 9) ∧ w.heap.size < w'.heap.size ∧ Below w.heap.size w w' := by
  go_enter Tryz.func67, Tryz.ntmps67
  go_wp2_with (first | (go_at_call 90; refine (value99 _ _ hc).mono ?_; rintro e w1 ⟨rfl, rfl⟩) | (go_at_call 92; refine (rootInt99 _).mono ?_; rintro e w1 ⟨rfl, rfl⟩) | (go_at_call 83; refine (trim_one _ 9 _ ?c1 rfl).mono ?_; rotate_left; rintro e w1 ⟨rfl, rfl⟩))
  · go_ret
    exact ⟨rfl, by simp [go_sem], by simp, (Below.refl _ _).alloc (Nat.le_refl _) _⟩
  · simp [go_sem]

set_option maxRecDepth 100000 in
set_option maxHeartbeats 1000000 in
theorem sign99 (w : World) : Calls Tryz.prog 14 #[.string ⟨#[57, 57]⟩] w fun e w' => e = .returned (.int .i64 1) ∧ w = w' := by
  have c0 : ∀ h, (⟨#[57, 57]⟩ : ByteArray)[0]'h = 57 := fun _ => rfl
  go_enter Tryz.func14, Tryz.ntmps14
  go_wp2
  go_ret
  exact ⟨rfl, rfl⟩

set_option maxRecDepth 100000 in
set_option maxHeartbeats 1000000 in
theorem root99 (w : World) (E : Env w) :
    Calls Tryz.prog 35 #[.string ⟨#[57, 57]⟩] w fun e w' => e = .returned (.tuple #[.string (itoaB 9), .int .i64 0]) ∧ Below w.heap.size w w' := by
  have hfield : ∀ (p : Option Addr) (n c : Nat) (w : World), (Instr.field 60 (.agg #[.bool false, .slice p n c]) 1).run Tryz.prog w = .ok (.slice p n c) w := fun _ _ _ _ => by kernel_rfl
  go_enter Tryz.func35, Tryz.ntmps35
  go_wp2_with (first | (go_at_call 14; refine (sign99 _).mono ?_; rintro e w1 ⟨rfl, rfl⟩) | (go_at_call 46; refine (read99 _).mono ?_; rintro e w2 ⟨b, rfl, hc2, hs2, hb2⟩; refine Hid.out ?_))
  refine Lib.hid ?_
  go_wp2_with (go_at_call 67; refine (proot99 _ _ hc2).mono ?_; rintro e w3 ⟨rfl, hc3, hs3, hb3⟩; refine Hid.out ?_)
  refine Lib.hid ?_
  have hb := hb2.trans (hb3.mono hb2.size)
  go_wp2_with (go_at_call 48; refine (chain hb (text1 _ 9 (by omega) (by omega) _ (E.below hb) hs3 hc3)).mono ?_; clear hb hb2 hb3 hc2 hc3 hs2 hs3; rintro e w4 ⟨rfl, hb⟩)
  go_ret2
  exact ⟨rfl, hb⟩

/-- The chapter's examples: every one as it says. -/
theorem known_divMod (w : World) (E : Env w) : Calls Tryz.prog 30 #[.string ⟨#[55]⟩, .string ⟨#[45, 50]⟩] w fun e w' => e = .returned (.tuple #[.string ⟨#[45, 51]⟩, .string ⟨#[49]⟩, .int .i64 0]) ∧ Below w.heap.size w w' :=
  (divMod_short ⟨#[55]⟩ ⟨#[45, 50]⟩ w (by decide) (by decide) 7 (-2) (by decide) (by decide) E (by decide) (by decide) (by decide) (by decide) (by decide)).mono fun _ _ ⟨h, k⟩ => ⟨h.trans (retSSI (by decide +kernel) (by decide +kernel) rfl), k⟩
end Go.Proofs.YtlfpigdolcpmfaaGreatDoor.Kl
