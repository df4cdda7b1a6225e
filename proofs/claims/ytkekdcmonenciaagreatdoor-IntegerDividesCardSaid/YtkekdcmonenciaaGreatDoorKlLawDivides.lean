/- The walk of klippelaw01.IntegerDivides: true, whatever the descriptions. -/
import Derived.Test.YtkekdcmonenciaaGreatDoorKlKnown
import Derived.Test.YtkekdcmonenciaaGreatDoorKlMadeI
import Derived.Test.YtkekdcmonenciaaGreatDoorKlRefDiv
import Derived.Lib.QuietBelow
namespace Go.Proofs.YtkekdcmonenciaaGreatDoor.Kl
open Go Go.RowKit Go.Sort

set_option maxRecDepth 100000 in
set_option maxHeartbeats 4000000 in
theorem lawDivides (b1 : Bool) (p1 : Option Addr) (n1 c1 : Nat) (l1 : List UInt8) (b2 : Bool) (p2 : Option Addr) (n2 c2 : Nat) (l2 : List UInt8) (hl1 : l1.all isDig = true) (hll1 : l1.length ≤ 200) (hl2 : l2.all isDig = true) (hll2 : l2.length ≤ 200) (w : World) (E : Env w)
    (hm1 : ∀ w', Below w.heap.size w w' → Calls Tryz.prog 12 #[.agg #[.bool b1, .slice p1 n1 c1], .int .i64 60] w' fun e w'' => e = .returned (.string (strOf (makeS b1 l1))) ∧ Below w'.heap.size w' w'')
    (hm2 : ∀ w', Below w.heap.size w w' → Calls Tryz.prog 12 #[.agg #[.bool b2, .slice p2 n2 c2], .int .i64 60] w' fun e w'' => e = .returned (.string (strOf (makeS b2 l2))) ∧ Below w'.heap.size w' w'') :
    Calls Tryz.prog 6 #[.agg #[.bool b1, .slice p1 n1 c1], .agg #[.bool b2, .slice p2 n2 c2]] w fun e w' => e = .returned (.bool true) ∧ Below w.heap.size w w' := by
  obtain ⟨x, hx, hdx⟩ := made_itoa b1 hl1 hll1
  obtain ⟨y, hy, hdy⟩ := made_itoa b2 hl2 hll2
  rw [hx] at hm1
  rw [hy] at hm2
  have M1 := Lib.hid hm1
  have M2 := Lib.hid hm2
  clear hx hy hm1 hl1 hm2 hl2
  by_cases hy0 : y = 0
  · subst hy0
    have g0 : itoaB 0 = ⟨#[48]⟩ := (itoa_eq_zero 0).2 rfl
    have k1 : ∀ w, Env w → Calls Tryz.prog 22 #[.string (itoaB x), .string (itoaB 0)] w fun e w' => e = .returned (.tuple #[.string ⟨#[]⟩, .string ⟨#[]⟩, .int .i64 17]) ∧ Below w.heap.size w w' := fun w E => divMod_zero x w E (by omega)
    obtain ⟨a, ga⟩ : ∃ v, itoaB x = v := ⟨_, rfl⟩
    simp only [ga, g0] at k1 M1 M2
    have K1 := Lib.hid k1
    clear k1 ga g0 hdx hdy
    have hbb1 : Below w.heap.size w (w.alloc (.cells #[.bool b1, .slice p1 n1 c1] 24)) := (Below.refl _ _).alloc (Nat.le_refl _) _
    have hbb2 := hbb1.alloc hbb1.size (.cells #[.bool b2, .slice p2 n2 c2] 24)
    go_enter Tryz.func6, Tryz.ntmps6
    go_wp2_with (go_at_call 11; refine (known_any _ (E.below hbb2)).mono ?_; rintro e w1 ⟨rfl, hb3⟩; refine Hid.out ?_)
    refine Lib.hid ?_
    have x0 : w1.cell? ⟨w.heap.size, 0, none⟩ = some (Value.bool b1) := by rw [hb3.cell (p := ⟨w.heap.size, 0, none⟩) (by simp only [World.size_alloc]; omega)]; simp [go_sem]
    have x1 : w1.cell? ⟨w.heap.size, 1, none⟩ = some (Value.slice p1 n1 c1) := by rw [hb3.cell (p := ⟨w.heap.size, 1, none⟩) (by simp only [World.size_alloc]; omega)]; simp [go_sem]
    have x2 : w1.cell? ⟨w.heap.size + 1, 0, none⟩ = some (Value.bool b2) := by rw [hb3.cell (p := ⟨w.heap.size + 1, 0, none⟩) (by simp only [World.size_alloc]; omega)]; simp [go_sem]
    have x3 : w1.cell? ⟨w.heap.size + 1, 1, none⟩ = some (Value.slice p2 n2 c2) := by rw [hb3.cell (p := ⟨w.heap.size + 1, 1, none⟩) (by simp only [World.size_alloc]; omega)]; simp [go_sem]
    have hb := hbb2.trans (hb3.mono hbb2.size)
    clear hb3 hbb1 hbb2
    have y0 : ∀ d os, (grow (redrawn w1 d) os).cell? ⟨w.heap.size, 0, none⟩ = some (Value.bool b1) := cell_regrown x0
    have y1 : ∀ d os, (grow (redrawn w1 d) os).cell? ⟨w.heap.size, 1, none⟩ = some (Value.slice p1 n1 c1) := cell_regrown x1
    have y2 : ∀ d os, (grow (redrawn w1 d) os).cell? ⟨w.heap.size + 1, 0, none⟩ = some (Value.bool b2) := cell_regrown x2
    have y3 : ∀ d os, (grow (redrawn w1 d) os).cell? ⟨w.heap.size + 1, 1, none⟩ = some (Value.slice p2 n2 c2) := cell_regrown x3
    have r1 := fun d os => Calls.regrown_of (M1.out (grow (redrawn w1 d) os) (hb.trans ((below_regrown w1 d os).mono hb.size)))
    have r2 := fun d os => Calls.regrown_of (M2.out (grow (redrawn w1 d) os) (hb.trans ((below_regrown w1 d os).mono hb.size)))
    have RR1 := Lib.hid r1
    have RR2 := Lib.hid r2
    clear r1 r2 x0 x1 x2 x3
    go_wp2
    refine wp_region_quiet_below (by first | assumption | kernel_rfl) (by kernel_rfl) ?_
    repeat (quiet_step (first | (with_reducible exact RR1.out _ _) | (with_reducible exact RR2.out _ _)))
    refine wpQuiet_nil ?_
    intro _ hw'
    obtain ⟨⟨dq, osq⟩, hw''⟩ := hw'
    subst hw''
    replace hb := hb.trans ((below_regrown w1 dq osq).mono hb.size)
    clear y0 y1 y2 y3 RR1 RR2 M1 M2
    obtain ⟨w2, hw2⟩ : ∃ w2, grow (redrawn w1 dq) osq = w2 := ⟨_, rfl⟩
    rw [hw2] at hb ⊢
    clear hw2
    go_wp2_with (first | (go_at_call 22; refine (chain hb (K1.out _ (E.below hb))).mono ?_; clear hb; rintro e w2 ⟨rfl, hb⟩))
    go_ret
    exact ⟨rfl, hb⟩
  · have k1 : ∀ w, Env w → Calls Tryz.prog 22 #[.string (itoaB x), .string (itoaB y)] w fun e w' => e = .returned (.tuple #[.string (itoaB (x / y)), .string (itoaB (x % y)), .int .i64 0]) ∧ Below w.heap.size w w' := fun w E => divMod_any x y w E (by omega) (by omega) hy0
    have k2 : ∀ w, Env w → Calls Tryz.prog 23 #[.string (itoaB x), .string (itoaB y)] w fun e w' => e = .returned (.tuple #[.string (itoaB (x / y)), .string (itoaB (x % y))]) ∧ Below w.heap.size w w' := fun w E => refDivMod_any x y w E (by omega) (by omega) hy0
    have hz : ((itoaB y).toList == [48]) = false := by
      rw [← decide_eq_false hy0, Bool.eq_iff_iff, beq_iff_eq, decide_eq_true_iff, ← itoa_eq_zero, Lib.toList_data]
      exact ⟨fun h => dat_inj h, fun h => by rw [h]⟩
    obtain ⟨q, gq⟩ : ∃ v, itoaB (x / y) = v := ⟨_, rfl⟩
    obtain ⟨r, gr⟩ : ∃ v, itoaB (x % y) = v := ⟨_, rfl⟩
    obtain ⟨a, ga⟩ : ∃ v, itoaB x = v := ⟨_, rfl⟩
    obtain ⟨b, gb⟩ : ∃ v, itoaB y = v := ⟨_, rfl⟩
    simp only [gq, gr, ga, gb] at k1 k2 M1 M2 hz
    have K1 := Lib.hid k1
    have K2 := Lib.hid k2
    clear k1 k2 gq gr ga gb hdx hdy hy0
    have hbb1 : Below w.heap.size w (w.alloc (.cells #[.bool b1, .slice p1 n1 c1] 24)) := (Below.refl _ _).alloc (Nat.le_refl _) _
    have hbb2 := hbb1.alloc hbb1.size (.cells #[.bool b2, .slice p2 n2 c2] 24)
    go_enter Tryz.func6, Tryz.ntmps6
    go_wp2_with (go_at_call 11; refine (known_any _ (E.below hbb2)).mono ?_; rintro e w1 ⟨rfl, hb3⟩; refine Hid.out ?_)
    refine Lib.hid ?_
    have x0 : w1.cell? ⟨w.heap.size, 0, none⟩ = some (Value.bool b1) := by rw [hb3.cell (p := ⟨w.heap.size, 0, none⟩) (by simp only [World.size_alloc]; omega)]; simp [go_sem]
    have x1 : w1.cell? ⟨w.heap.size, 1, none⟩ = some (Value.slice p1 n1 c1) := by rw [hb3.cell (p := ⟨w.heap.size, 1, none⟩) (by simp only [World.size_alloc]; omega)]; simp [go_sem]
    have x2 : w1.cell? ⟨w.heap.size + 1, 0, none⟩ = some (Value.bool b2) := by rw [hb3.cell (p := ⟨w.heap.size + 1, 0, none⟩) (by simp only [World.size_alloc]; omega)]; simp [go_sem]
    have x3 : w1.cell? ⟨w.heap.size + 1, 1, none⟩ = some (Value.slice p2 n2 c2) := by rw [hb3.cell (p := ⟨w.heap.size + 1, 1, none⟩) (by simp only [World.size_alloc]; omega)]; simp [go_sem]
    have hb := hbb2.trans (hb3.mono hbb2.size)
    clear hb3 hbb1 hbb2
    have y0 : ∀ d os, (grow (redrawn w1 d) os).cell? ⟨w.heap.size, 0, none⟩ = some (Value.bool b1) := cell_regrown x0
    have y1 : ∀ d os, (grow (redrawn w1 d) os).cell? ⟨w.heap.size, 1, none⟩ = some (Value.slice p1 n1 c1) := cell_regrown x1
    have y2 : ∀ d os, (grow (redrawn w1 d) os).cell? ⟨w.heap.size + 1, 0, none⟩ = some (Value.bool b2) := cell_regrown x2
    have y3 : ∀ d os, (grow (redrawn w1 d) os).cell? ⟨w.heap.size + 1, 1, none⟩ = some (Value.slice p2 n2 c2) := cell_regrown x3
    have r1 := fun d os => Calls.regrown_of (M1.out (grow (redrawn w1 d) os) (hb.trans ((below_regrown w1 d os).mono hb.size)))
    have r2 := fun d os => Calls.regrown_of (M2.out (grow (redrawn w1 d) os) (hb.trans ((below_regrown w1 d os).mono hb.size)))
    have RR1 := Lib.hid r1
    have RR2 := Lib.hid r2
    clear r1 r2 x0 x1 x2 x3
    go_wp2
    refine wp_region_quiet_below (by first | assumption | kernel_rfl) (by kernel_rfl) ?_
    repeat (quiet_step (first | (with_reducible exact RR1.out _ _) | (with_reducible exact RR2.out _ _)))
    refine wpQuiet_nil ?_
    intro _ hw'
    obtain ⟨⟨dq, osq⟩, hw''⟩ := hw'
    subst hw''
    replace hb := hb.trans ((below_regrown w1 dq osq).mono hb.size)
    clear y0 y1 y2 y3 RR1 RR2 M1 M2
    obtain ⟨w2, hw2⟩ : ∃ w2, grow (redrawn w1 dq) osq = w2 := ⟨_, rfl⟩
    rw [hw2] at hb ⊢
    clear hw2
    go_wp2_with (first | (go_at_call 22; refine (chain hb (K1.out _ (E.below hb))).mono ?_; clear hb; rintro e w2 ⟨rfl, hb⟩) | (go_at_call 23; refine (chain hb (K2.out _ (E.below hb))).mono ?_; clear hb; rintro e w2 ⟨rfl, hb⟩))
    go_ret
    exact ⟨rfl, hb⟩
end Go.Proofs.YtkekdcmonenciaaGreatDoor.Kl
