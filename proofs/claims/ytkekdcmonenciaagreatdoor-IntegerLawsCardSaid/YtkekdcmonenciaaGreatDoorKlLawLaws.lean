/- The walk of klippelaw01.IntegerLaws: true, whatever the descriptions. -/
import Derived.Test.YtkekdcmonenciaaGreatDoorKlKnown
import Derived.Test.YtkekdcmonenciaaGreatDoorKlMadeI
import Derived.Test.YtkekdcmonenciaaGreatDoorKlMulI
import Derived.Test.YtkekdcmonenciaaGreatDoorKlCompare
import Derived.Lib.QuietBelow
namespace Go.Proofs.YtkekdcmonenciaaGreatDoor.Kl
open Go Go.RowKit Go.Sort

set_option maxRecDepth 100000 in
set_option maxHeartbeats 4000000 in
theorem lawLaws (b1 : Bool) (p1 : Option Addr) (n1 c1 : Nat) (l1 : List UInt8) (b2 : Bool) (p2 : Option Addr) (n2 c2 : Nat) (l2 : List UInt8) (b3 : Bool) (p3 : Option Addr) (n3 c3 : Nat) (l3 : List UInt8) (hl1 : l1.all isDig = true) (hll1 : l1.length ≤ 200) (hl2 : l2.all isDig = true) (hll2 : l2.length ≤ 200) (hl3 : l3.all isDig = true) (hll3 : l3.length ≤ 200) (w : World) (E : Env w)
    (hm1 : ∀ w', Below w.heap.size w w' → Calls Tryz.prog 12 #[.agg #[.bool b1, .slice p1 n1 c1], .int .i64 24] w' fun e w'' => e = .returned (.string (strOf (makeS b1 l1))) ∧ Below w'.heap.size w' w'')
    (hm2 : ∀ w', Below w.heap.size w w' → Calls Tryz.prog 12 #[.agg #[.bool b2, .slice p2 n2 c2], .int .i64 24] w' fun e w'' => e = .returned (.string (strOf (makeS b2 l2))) ∧ Below w'.heap.size w' w'')
    (hm3 : ∀ w', Below w.heap.size w w' → Calls Tryz.prog 12 #[.agg #[.bool b3, .slice p3 n3 c3], .int .i64 24] w' fun e w'' => e = .returned (.string (strOf (makeS b3 l3))) ∧ Below w'.heap.size w' w'') :
    Calls Tryz.prog 9 #[.agg #[.bool b1, .slice p1 n1 c1], .agg #[.bool b2, .slice p2 n2 c2], .agg #[.bool b3, .slice p3 n3 c3]] w fun e w' => e = .returned (.bool true) ∧ Below w.heap.size w w' := by
  obtain ⟨x, hx, hdx⟩ := made_itoa b1 hl1 hll1
  obtain ⟨y, hy, hdy⟩ := made_itoa b2 hl2 hll2
  obtain ⟨z, hz, hdz⟩ := made_itoa b3 hl3 hll3
  rw [hx] at hm1
  rw [hy] at hm2
  rw [hz] at hm3
  have M1 := Lib.hid hm1
  have M2 := Lib.hid hm2
  have M3 := Lib.hid hm3
  clear hx hy hz hm1 hl1 hm2 hl2 hm3 hl3
  have dxy := dlen_add x y 1000 (by decide) hdx hdy
  have dxz := dlen_add x z 1000 (by decide) hdx hdz
  have dyz := dlen_add y z 1000 (by decide) hdy hdz
  have dzx := dlen_mul z x 1000 1000 (by decide) hdz hdx
  have dzy := dlen_mul z y 1000 1000 (by decide) hdz hdy
  have k1 : ∀ w, Env w → Calls Tryz.prog 13 #[.string (itoaB (x)), .string (itoaB (y))] w fun e w' => e = .returned (.string (itoaB (x + y))) ∧ Below w.heap.size w w' := fun w E => add_any x y w E (by omega) (by omega)
  have k2 : ∀ w, Env w → Calls Tryz.prog 13 #[.string (itoaB (y)), .string (itoaB (x))] w fun e w' => e = .returned (.string (itoaB (x + y))) ∧ Below w.heap.size w w' := fun w E => by have := add_any y x w E (by omega) (by omega); rwa [Int.add_comm y x] at this
  have k3 : ∀ w, Env w → Calls Tryz.prog 17 #[.string (itoaB (x)), .string (itoaB (y))] w fun e w' => e = .returned (.string (itoaB (x * y))) ∧ Below w.heap.size w w' := fun w E => mul_any x y w E (by omega) (by omega)
  have k4 : ∀ w, Env w → Calls Tryz.prog 17 #[.string (itoaB (y)), .string (itoaB (x))] w fun e w' => e = .returned (.string (itoaB (x * y))) ∧ Below w.heap.size w w' := fun w E => by have := mul_any y x w E (by omega) (by omega); rwa [Int.mul_comm y x] at this
  have k5 : ∀ w, Env w → Calls Tryz.prog 15 #[.string (itoaB (x + y)), .string (itoaB (y))] w fun e w' => e = .returned (.string (itoaB (x))) ∧ Below w.heap.size w w' := fun w E => by have := sub_any (x + y) y w E (by omega) (by omega); rwa [show x + y - y = x by omega] at this
  have k6 : ∀ w, Env w → Calls Tryz.prog 17 #[.string (itoaB (z)), .string (itoaB (x + y))] w fun e w' => e = .returned (.string (itoaB (z * (x + y)))) ∧ Below w.heap.size w w' := fun w E => mul_any z (x + y) w E (by omega) (by omega)
  have k7 : ∀ w, Env w → Calls Tryz.prog 17 #[.string (itoaB (z)), .string (itoaB (x))] w fun e w' => e = .returned (.string (itoaB (z * x))) ∧ Below w.heap.size w w' := fun w E => mul_any z x w E (by omega) (by omega)
  have k8 : ∀ w, Env w → Calls Tryz.prog 17 #[.string (itoaB (z)), .string (itoaB (y))] w fun e w' => e = .returned (.string (itoaB (z * y))) ∧ Below w.heap.size w w' := fun w E => mul_any z y w E (by omega) (by omega)
  have k9 : ∀ w, Env w → Calls Tryz.prog 13 #[.string (itoaB (z * x)), .string (itoaB (z * y))] w fun e w' => e = .returned (.string (itoaB (z * (x + y)))) ∧ Below w.heap.size w w' := fun w E => by have := add_any (z * x) (z * y) w E (by omega) (by omega); rwa [← Int.mul_add] at this
  have k10 : ∀ w, Env w → Calls Tryz.prog 13 #[.string (itoaB (x)), .string (itoaB (z))] w fun e w' => e = .returned (.string (itoaB (x + z))) ∧ Below w.heap.size w w' := fun w E => add_any x z w E (by omega) (by omega)
  have k11 : ∀ w, Env w → Calls Tryz.prog 13 #[.string (itoaB (y)), .string (itoaB (z))] w fun e w' => e = .returned (.string (itoaB (y + z))) ∧ Below w.heap.size w w' := fun w E => add_any y z w E (by omega) (by omega)
  have k12 : ∀ w, Calls Tryz.prog 30 #[.string (itoaB (x + z)), .string (itoaB (y + z))] w fun e w' => e = .returned (.int .i64 (x - y).sign) ∧ Below w.heap.size w w' := fun w => by have := compare_any (x + z) (y + z) w; rwa [show x + z - (y + z) = x - y by omega] at this
  have k13 : ∀ w, Calls Tryz.prog 30 #[.string (itoaB (x)), .string (itoaB (y))] w fun e w' => e = .returned (.int .i64 (x - y).sign) ∧ Below w.heap.size w w' := fun w => compare_any x y w
  obtain ⟨o, go⟩ : ∃ v, (x - y).sign = v := ⟨_, rfl⟩
  obtain ⟨s, gs⟩ : ∃ v, itoaB (x + y) = v := ⟨_, rfl⟩
  obtain ⟨pr, gpr⟩ : ∃ v, itoaB (x * y) = v := ⟨_, rfl⟩
  obtain ⟨cs, gcs⟩ : ∃ v, itoaB (z * (x + y)) = v := ⟨_, rfl⟩
  obtain ⟨ca, gca⟩ : ∃ v, itoaB (z * x) = v := ⟨_, rfl⟩
  obtain ⟨cb, gcb⟩ : ∃ v, itoaB (z * y) = v := ⟨_, rfl⟩
  obtain ⟨ac, gac⟩ : ∃ v, itoaB (x + z) = v := ⟨_, rfl⟩
  obtain ⟨bc, gbc⟩ : ∃ v, itoaB (y + z) = v := ⟨_, rfl⟩
  obtain ⟨a, ga⟩ : ∃ v, itoaB x = v := ⟨_, rfl⟩
  obtain ⟨b, gb⟩ : ∃ v, itoaB y = v := ⟨_, rfl⟩
  obtain ⟨c, gc⟩ : ∃ v, itoaB z = v := ⟨_, rfl⟩
  simp only [go, gs, gpr, gcs, gca, gcb, gac, gbc, ga, gb, gc] at k1 k2 k3 k4 k5 k6 k7 k8 k9 k10 k11 k12 k13 M1 M2 M3
  have K1 := Lib.hid k1
  have K2 := Lib.hid k2
  have K3 := Lib.hid k3
  have K4 := Lib.hid k4
  have K5 := Lib.hid k5
  have K6 := Lib.hid k6
  have K7 := Lib.hid k7
  have K8 := Lib.hid k8
  have K9 := Lib.hid k9
  have K10 := Lib.hid k10
  have K11 := Lib.hid k11
  have K12 := Lib.hid k12
  have K13 := Lib.hid k13
  clear k1 k2 k3 k4 k5 k6 k7 k8 k9 k10 k11 k12 k13 go gs gpr gcs gca gcb gac gbc ga gb gc hdx hdy hdz dxy dxz dyz dzx dzy
  have hbb1 : Below w.heap.size w (w.alloc (.cells #[.bool b1, .slice p1 n1 c1] 24)) := (Below.refl _ _).alloc (Nat.le_refl _) _
  have hbb2 := hbb1.alloc hbb1.size (.cells #[.bool b2, .slice p2 n2 c2] 24)
  have hbb3 := hbb2.alloc hbb2.size (.cells #[.bool b3, .slice p3 n3 c3] 24)
  go_enter Tryz.func9, Tryz.ntmps9
  go_wp2_with (go_at_call 11; refine (known_any _ (E.below hbb3)).mono ?_; rintro e w1 ⟨rfl, hb3⟩; refine Hid.out ?_)
  refine Lib.hid ?_
  have x0 : w1.cell? ⟨w.heap.size, 0, none⟩ = some (Value.bool b1) := by rw [hb3.cell (p := ⟨w.heap.size, 0, none⟩) (by simp only [World.size_alloc]; omega)]; simp [go_sem]
  have x1 : w1.cell? ⟨w.heap.size, 1, none⟩ = some (Value.slice p1 n1 c1) := by rw [hb3.cell (p := ⟨w.heap.size, 1, none⟩) (by simp only [World.size_alloc]; omega)]; simp [go_sem]
  have x2 : w1.cell? ⟨w.heap.size + 1, 0, none⟩ = some (Value.bool b2) := by rw [hb3.cell (p := ⟨w.heap.size + 1, 0, none⟩) (by simp only [World.size_alloc]; omega)]; simp [go_sem]
  have x3 : w1.cell? ⟨w.heap.size + 1, 1, none⟩ = some (Value.slice p2 n2 c2) := by rw [hb3.cell (p := ⟨w.heap.size + 1, 1, none⟩) (by simp only [World.size_alloc]; omega)]; simp [go_sem]
  have x4 : w1.cell? ⟨w.heap.size + 2, 0, none⟩ = some (Value.bool b3) := by rw [hb3.cell (p := ⟨w.heap.size + 2, 0, none⟩) (by simp only [World.size_alloc]; omega)]; simp [go_sem]
  have x5 : w1.cell? ⟨w.heap.size + 2, 1, none⟩ = some (Value.slice p3 n3 c3) := by rw [hb3.cell (p := ⟨w.heap.size + 2, 1, none⟩) (by simp only [World.size_alloc]; omega)]; simp [go_sem]
  have hb := hbb3.trans (hb3.mono hbb3.size)
  clear hb3 hbb1 hbb2 hbb3
  have y0 : ∀ d os, (grow (redrawn w1 d) os).cell? ⟨w.heap.size, 0, none⟩ = some (Value.bool b1) := cell_regrown x0
  have y1 : ∀ d os, (grow (redrawn w1 d) os).cell? ⟨w.heap.size, 1, none⟩ = some (Value.slice p1 n1 c1) := cell_regrown x1
  have y2 : ∀ d os, (grow (redrawn w1 d) os).cell? ⟨w.heap.size + 1, 0, none⟩ = some (Value.bool b2) := cell_regrown x2
  have y3 : ∀ d os, (grow (redrawn w1 d) os).cell? ⟨w.heap.size + 1, 1, none⟩ = some (Value.slice p2 n2 c2) := cell_regrown x3
  have y4 : ∀ d os, (grow (redrawn w1 d) os).cell? ⟨w.heap.size + 2, 0, none⟩ = some (Value.bool b3) := cell_regrown x4
  have y5 : ∀ d os, (grow (redrawn w1 d) os).cell? ⟨w.heap.size + 2, 1, none⟩ = some (Value.slice p3 n3 c3) := cell_regrown x5
  have r1 := fun d os => Calls.regrown_of (M1.out (grow (redrawn w1 d) os) (hb.trans ((below_regrown w1 d os).mono hb.size)))
  have r2 := fun d os => Calls.regrown_of (M2.out (grow (redrawn w1 d) os) (hb.trans ((below_regrown w1 d os).mono hb.size)))
  have r3 := fun d os => Calls.regrown_of (M3.out (grow (redrawn w1 d) os) (hb.trans ((below_regrown w1 d os).mono hb.size)))
  have RR1 := Lib.hid r1
  have RR2 := Lib.hid r2
  have RR3 := Lib.hid r3
  clear r1 r2 r3 x0 x1 x2 x3 x4 x5
  go_wp2
  refine wp_region_quiet_below (by first | assumption | kernel_rfl) (by kernel_rfl) ?_
  repeat (quiet_step (first | (with_reducible exact RR1.out _ _) | (with_reducible exact RR2.out _ _) | (with_reducible exact RR3.out _ _)))
  refine wpQuiet_nil ?_
  intro _ hw'
  obtain ⟨⟨dq, osq⟩, hw''⟩ := hw'
  subst hw''
  replace hb := hb.trans ((below_regrown w1 dq osq).mono hb.size)
  clear y0 y1 y2 y3 y4 y5 RR1 RR2 RR3 M1 M2 M3
  obtain ⟨w2, hw2⟩ : ∃ w2, grow (redrawn w1 dq) osq = w2 := ⟨_, rfl⟩
  rw [hw2] at hb ⊢
  clear hw2
  go_wp2_with (first | (go_at_call 13; first | (with_reducible refine (chain hb (K1.out _ (E.below hb))).mono ?_; clear hb; rintro e w2 ⟨rfl, hb⟩) | (with_reducible refine (chain hb (K2.out _ (E.below hb))).mono ?_; clear hb; rintro e w2 ⟨rfl, hb⟩) | (with_reducible refine (chain hb (K9.out _ (E.below hb))).mono ?_; clear hb; rintro e w2 ⟨rfl, hb⟩) | (with_reducible refine (chain hb (K10.out _ (E.below hb))).mono ?_; clear hb; rintro e w2 ⟨rfl, hb⟩) | (with_reducible refine (chain hb (K11.out _ (E.below hb))).mono ?_; clear hb; rintro e w2 ⟨rfl, hb⟩)) | (go_at_call 17; first | (with_reducible refine (chain hb (K3.out _ (E.below hb))).mono ?_; clear hb; rintro e w2 ⟨rfl, hb⟩) | (with_reducible refine (chain hb (K4.out _ (E.below hb))).mono ?_; clear hb; rintro e w2 ⟨rfl, hb⟩) | (with_reducible refine (chain hb (K6.out _ (E.below hb))).mono ?_; clear hb; rintro e w2 ⟨rfl, hb⟩) | (with_reducible refine (chain hb (K7.out _ (E.below hb))).mono ?_; clear hb; rintro e w2 ⟨rfl, hb⟩) | (with_reducible refine (chain hb (K8.out _ (E.below hb))).mono ?_; clear hb; rintro e w2 ⟨rfl, hb⟩)) | (go_at_call 15; refine (chain hb (K5.out _ (E.below hb))).mono ?_; clear hb; rintro e w2 ⟨rfl, hb⟩) | (go_at_call 30; first | (with_reducible refine (chain hb (K12.out _)).mono ?_; clear hb; rintro e w2 ⟨rfl, hb⟩) | (with_reducible refine (chain hb (K13.out _)).mono ?_; clear hb; rintro e w2 ⟨rfl, hb⟩)))
  go_ret
  exact ⟨rfl, hb⟩
end Go.Proofs.YtkekdcmonenciaaGreatDoor.Kl
