/- The walk of klippelaw01.IntegerRemains: true, whatever the descriptions. -/
import Derived.Test.YtkekdcmonenciaaGreatDoorKlKnown
import Derived.Test.YtkekdcmonenciaaGreatDoorKlMadeI
import Derived.Test.YtkekdcmonenciaaGreatDoorKlRootI
import Derived.Test.YtkekdcmonenciaaGreatDoorKlCompare
import Derived.Lib.QuietBelow
namespace Go.Proofs.YtkekdcmonenciaaGreatDoor.Kl
open Go Go.RowKit Go.Sort

set_option maxRecDepth 100000 in
set_option maxHeartbeats 4000000 in
theorem lawRemains (b1 : Bool) (p1 : Option Addr) (n1 c1 : Nat) (l1 : List UInt8) (b2 : Bool) (p2 : Option Addr) (n2 c2 : Nat) (l2 : List UInt8) (hl1 : l1.all isDig = true) (hll1 : l1.length ≤ 200) (hl2 : l2.all isDig = true) (hll2 : l2.length ≤ 200) (w : World) (E : Env w)
    (hm1 : ∀ w', Below w.heap.size w w' → Calls Tryz.prog 12 #[.agg #[.bool b1, .slice p1 n1 c1], .int .i64 30] w' fun e w'' => e = .returned (.string (strOf (makeS b1 l1))) ∧ Below w'.heap.size w' w'')
    (hm2 : ∀ w', Below w.heap.size w w' → Calls Tryz.prog 12 #[.agg #[.bool b2, .slice p2 n2 c2], .int .i64 30] w' fun e w'' => e = .returned (.string (strOf (makeS b2 l2))) ∧ Below w'.heap.size w' w'') :
    Calls Tryz.prog 10 #[.agg #[.bool b1, .slice p1 n1 c1], .agg #[.bool b2, .slice p2 n2 c2]] w fun e w' => e = .returned (.bool true) ∧ Below w.heap.size w w' := by
  obtain ⟨x, hx, hdx⟩ := made_itoa b1 hl1 hll1
  obtain ⟨y, hy, hdy⟩ := made_itoa b2 hl2 hll2
  rw [hx] at hm1
  rw [hy] at hm2
  have M1 := Lib.hid hm1
  have M2 := Lib.hid hm2
  clear hx hy hm1 hl1 hm2 hl2
  have dle : ∀ (N : Nat) (z : Int), N ≤ z.natAbs → dlen z ≤ 1000 → dlen (N : Int) ≤ 1000 := fun N z h hz => dlen_nat_le N z 1000 (by decide) h hz
  by_cases hx0 : x < 0
  · by_cases hy0 : y = 0
    · have hsx := Int.sign_eq_neg_one_of_neg hx0
      have k1 : ∀ w, Calls Tryz.prog 31 #[.string (itoaB (x))] w fun e w' => e = .returned (.int .i64 (-1)) ∧ Below w.heap.size w w' := fun w => by have := sign_any x w; rwa [hsx] at this
      have hso : ¬ (0 : Int) ≤ -1 := by decide
      subst hy0
      have g0 : itoaB 0 = ⟨#[48]⟩ := (itoa_eq_zero 0).2 rfl
      obtain ⟨a, ga⟩ : ∃ v, itoaB x = v := ⟨_, rfl⟩
      simp only [ga, g0] at k1 M1 M2
      have K1 := Lib.hid k1
      clear k1 ga g0 hdx  dle hsx
      have hbb1 : Below w.heap.size w (w.alloc (.cells #[.bool b1, .slice p1 n1 c1] 24)) := (Below.refl _ _).alloc (Nat.le_refl _) _
      have hbb2 := hbb1.alloc hbb1.size (.cells #[.bool b2, .slice p2 n2 c2] 24)
      go_enter Tryz.func10, Tryz.ntmps10
      go_wp2_with (go_at_call 11; refine (known_any _ (E.below hbb2)).mono ?_; rintro e w1 ⟨rfl, hb3⟩; refine Hid.out ?_)
      refine Lib.hid ?_
      have x0 : w1.cell? ⟨w.heap.size, 0, none⟩ = some (Value.bool b1) := by rw [hb3.cell (p := ⟨w.heap.size, 0, none⟩) (by simp only [World.size_alloc]; omega)]; simp [go_sem]
      have x1 : w1.cell? ⟨w.heap.size, 1, none⟩ = some (Value.slice p1 n1 c1) := by rw [hb3.cell (p := ⟨w.heap.size, 1, none⟩) (by simp only [World.size_alloc]; omega)]; simp [go_sem]
      have x2 : w1.cell? ⟨w.heap.size + 1, 0, none⟩ = some (Value.bool b2) := by rw [hb3.cell (p := ⟨w.heap.size + 1, 0, none⟩) (by simp only [World.size_alloc]; omega)]; simp [go_sem]
      have x3 : w1.cell? ⟨w.heap.size + 1, 1, none⟩ = some (Value.slice p2 n2 c2) := by rw [hb3.cell (p := ⟨w.heap.size + 1, 1, none⟩) (by simp only [World.size_alloc]; omega)]; simp [go_sem]
      have hb := hbb2.trans (hb3.mono hbb2.size)
      clear hb3 hbb1 hbb2
      have y0 : ∀ d os, (grow (redrawn w1 d) os).cell? ⟨w.heap.size, 0, none⟩ = some (Value.bool b1) := cell_regrown x0
      have y1 : ∀ d os, (grow (redrawn w1 d) os).cell? ⟨w.heap.size, 1, none⟩ = some (Value.slice p1 n1 c1) := cell_regrown x1
      have y2 : ∀ d os, (grow (redrawn w1 d) os).cell? ⟨w.heap.size + 1, 0, none⟩ = some (Value.bool b2) := cell_regrown x2
      have y3 : ∀ d os, (grow (redrawn w1 d) os).cell? ⟨w.heap.size + 1, 1, none⟩ = some (Value.slice p2 n2 c2) := cell_regrown x3
      have r1 := fun d os => Calls.regrown_of (M1.out (grow (redrawn w1 d) os) (hb.trans ((below_regrown w1 d os).mono hb.size)))
      have r2 := fun d os => Calls.regrown_of (M2.out (grow (redrawn w1 d) os) (hb.trans ((below_regrown w1 d os).mono hb.size)))
      have RR1 := Lib.hid r1
      have RR2 := Lib.hid r2
      clear r1 r2 x0 x1 x2 x3
      go_wp2
      refine wp_region_quiet_below (by first | assumption | kernel_rfl) (by kernel_rfl) ?_
      repeat (quiet_step (first | (with_reducible exact RR1.out _ _) | (with_reducible exact RR2.out _ _)))
      refine wpQuiet_nil ?_
      intro _ hw'
      obtain ⟨⟨dq, osq⟩, hw''⟩ := hw'
      subst hw''
      replace hb := hb.trans ((below_regrown w1 dq osq).mono hb.size)
      clear y0 y1 y2 y3 RR1 RR2 M1 M2
      obtain ⟨w2, hw2⟩ : ∃ w2, grow (redrawn w1 dq) osq = w2 := ⟨_, rfl⟩
      rw [hw2] at hb ⊢
      clear hw2
      go_wp2_with (first | (go_at_call 31; refine (chain hb (K1.out _)).mono ?_; clear hb; rintro e w2 ⟨rfl, hb⟩))
      go_ret
      exact ⟨rfl, hb⟩
    · have hsx := Int.sign_eq_neg_one_of_neg hx0
      have k1 : ∀ w, Calls Tryz.prog 31 #[.string (itoaB (x))] w fun e w' => e = .returned (.int .i64 (-1)) ∧ Below w.heap.size w w' := fun w => by have := sign_any x w; rwa [hsx] at this
      have hso : ¬ (0 : Int) ≤ -1 := by decide
      have dQ : dlen (x / y) ≤ 1000 := by
        have := dle (x / y).natAbs x (Int.natAbs_ediv_le_natAbs _ _) hdx
        unfold dlen at *; rwa [Int.natAbs_natCast] at this
      have hr0 := Int.emod_nonneg x hy0
      have hr1 := Int.emod_lt x hy0
      have dM : dlen (x % y) ≤ 1000 := by
        have := dle (x % y).natAbs y (by omega) hdy
        unfold dlen at *; rwa [Int.natAbs_natCast] at this
      have dQy := dlen_mul (x / y) y 1000 1000 (by decide) dQ hdy
      have hz : ((itoaB y).toList == [48]) = false := by
        rw [← decide_eq_false hy0, Bool.eq_iff_iff, beq_iff_eq, decide_eq_true_iff, ← itoa_eq_zero, Lib.toList_data]
        exact ⟨fun h => dat_inj h, fun h => by rw [h]⟩
      have hs3 : 0 ≤ (x % y).sign := by
        rcases Int.lt_or_eq_of_le hr0 with h | h
        · rw [Int.sign_eq_one_of_pos h]; decide
        · rw [← h]; decide
      have hs4 : (x % y - (y.natAbs : Int)).sign < 0 := by rw [Int.sign_eq_neg_one_of_neg (by omega)]; decide
      have k11 : ∀ w, Env w → Calls Tryz.prog 22 #[.string (itoaB (x)), .string (itoaB (y))] w fun e w' => e = .returned (.tuple #[.string (itoaB (x / y)), .string (itoaB (x % y)), .int .i64 0]) ∧ Below w.heap.size w w' := fun w E => divMod_any _ y w E (by omega) (by omega) hy0
      have k12 : ∀ w, Env w → Calls Tryz.prog 17 #[.string (itoaB (x / y)), .string (itoaB (y))] w fun e w' => e = .returned (.string (itoaB (x / y * y))) ∧ Below w.heap.size w w' := fun w E => mul_any _ _ w E (by omega) (by omega)
      have k13 : ∀ w, Env w → Calls Tryz.prog 13 #[.string (itoaB (x / y * y)), .string (itoaB (x % y))] w fun e w' => e = .returned (.string (itoaB (x))) ∧ Below w.heap.size w w' := fun w E => by have := add_any (x / y * y) (x % y) w E (by omega) (by omega); rwa [Int.ediv_mul_add_emod] at this
      have k14 : ∀ w, Calls Tryz.prog 31 #[.string (itoaB (x % y))] w fun e w' => e = .returned (.int .i64 (x % y).sign) ∧ Below w.heap.size w w' := fun w => sign_any _ w
      have k15 : ∀ w, Calls Tryz.prog 32 #[.string (itoaB (y))] w fun e w' => e = .returned (.string (itoaB ((y.natAbs : Int)))) ∧ Below w.heap.size w w' := fun w => abs_any y w
      have k16 : ∀ w, Calls Tryz.prog 30 #[.string (itoaB (x % y)), .string (itoaB ((y.natAbs : Int)))] w fun e w' => e = .returned (.int .i64 (x % y - (y.natAbs : Int)).sign) ∧ Below w.heap.size w w' := fun w => compare_any _ _ w
      obtain ⟨s3, gs3⟩ : ∃ v, (x % y).sign = v := ⟨_, rfl⟩
      obtain ⟨o3, go3⟩ : ∃ v, (x % y - (y.natAbs : Int)).sign = v := ⟨_, rfl⟩
      simp only [gs3, go3] at k1 k11 k12 k13 k14 k15 k16 hs3 hs4
      obtain ⟨a, ga⟩ : ∃ v, itoaB x = v := ⟨_, rfl⟩
      obtain ⟨qy, gqy⟩ : ∃ v, itoaB (x / y * y) = v := ⟨_, rfl⟩
      obtain ⟨q, gq⟩ : ∃ v, itoaB (x / y) = v := ⟨_, rfl⟩
      obtain ⟨rm, grm⟩ : ∃ v, itoaB (x % y) = v := ⟨_, rfl⟩
      obtain ⟨ab, gab⟩ : ∃ v, itoaB (y.natAbs : Int) = v := ⟨_, rfl⟩
      obtain ⟨b, gb⟩ : ∃ v, itoaB y = v := ⟨_, rfl⟩
      simp only [ga, gqy, gq, grm, gab, gb] at k1 k11 k12 k13 k14 k15 k16 M1 M2 hz
      have hso3 : (0 : Int) ≤ s3 := hs3
      have hso4 : o3 < 0 := hs4
      have K1 := Lib.hid k1
      have K11 := Lib.hid k11
      have K12 := Lib.hid k12
      have K13 := Lib.hid k13
      have K14 := Lib.hid k14
      have K15 := Lib.hid k15
      have K16 := Lib.hid k16
      clear k1 k11 k12 k13 k14 k15 k16 gs3 go3 ga gqy gq grm gab gb hdx hdy dle hsx hs3 hs4 dQ dM dQy hr0 hr1
      have hbb1 : Below w.heap.size w (w.alloc (.cells #[.bool b1, .slice p1 n1 c1] 24)) := (Below.refl _ _).alloc (Nat.le_refl _) _
      have hbb2 := hbb1.alloc hbb1.size (.cells #[.bool b2, .slice p2 n2 c2] 24)
      go_enter Tryz.func10, Tryz.ntmps10
      go_wp2_with (go_at_call 11; refine (known_any _ (E.below hbb2)).mono ?_; rintro e w1 ⟨rfl, hb3⟩; refine Hid.out ?_)
      refine Lib.hid ?_
      have x0 : w1.cell? ⟨w.heap.size, 0, none⟩ = some (Value.bool b1) := by rw [hb3.cell (p := ⟨w.heap.size, 0, none⟩) (by simp only [World.size_alloc]; omega)]; simp [go_sem]
      have x1 : w1.cell? ⟨w.heap.size, 1, none⟩ = some (Value.slice p1 n1 c1) := by rw [hb3.cell (p := ⟨w.heap.size, 1, none⟩) (by simp only [World.size_alloc]; omega)]; simp [go_sem]
      have x2 : w1.cell? ⟨w.heap.size + 1, 0, none⟩ = some (Value.bool b2) := by rw [hb3.cell (p := ⟨w.heap.size + 1, 0, none⟩) (by simp only [World.size_alloc]; omega)]; simp [go_sem]
      have x3 : w1.cell? ⟨w.heap.size + 1, 1, none⟩ = some (Value.slice p2 n2 c2) := by rw [hb3.cell (p := ⟨w.heap.size + 1, 1, none⟩) (by simp only [World.size_alloc]; omega)]; simp [go_sem]
      have hb := hbb2.trans (hb3.mono hbb2.size)
      clear hb3 hbb1 hbb2
      have y0 : ∀ d os, (grow (redrawn w1 d) os).cell? ⟨w.heap.size, 0, none⟩ = some (Value.bool b1) := cell_regrown x0
      have y1 : ∀ d os, (grow (redrawn w1 d) os).cell? ⟨w.heap.size, 1, none⟩ = some (Value.slice p1 n1 c1) := cell_regrown x1
      have y2 : ∀ d os, (grow (redrawn w1 d) os).cell? ⟨w.heap.size + 1, 0, none⟩ = some (Value.bool b2) := cell_regrown x2
      have y3 : ∀ d os, (grow (redrawn w1 d) os).cell? ⟨w.heap.size + 1, 1, none⟩ = some (Value.slice p2 n2 c2) := cell_regrown x3
      have r1 := fun d os => Calls.regrown_of (M1.out (grow (redrawn w1 d) os) (hb.trans ((below_regrown w1 d os).mono hb.size)))
      have r2 := fun d os => Calls.regrown_of (M2.out (grow (redrawn w1 d) os) (hb.trans ((below_regrown w1 d os).mono hb.size)))
      have RR1 := Lib.hid r1
      have RR2 := Lib.hid r2
      clear r1 r2 x0 x1 x2 x3
      go_wp2
      refine wp_region_quiet_below (by first | assumption | kernel_rfl) (by kernel_rfl) ?_
      repeat (quiet_step (first | (with_reducible exact RR1.out _ _) | (with_reducible exact RR2.out _ _)))
      refine wpQuiet_nil ?_
      intro _ hw'
      obtain ⟨⟨dq, osq⟩, hw''⟩ := hw'
      subst hw''
      replace hb := hb.trans ((below_regrown w1 dq osq).mono hb.size)
      clear y0 y1 y2 y3 RR1 RR2 M1 M2
      obtain ⟨w2, hw2⟩ : ∃ w2, grow (redrawn w1 dq) osq = w2 := ⟨_, rfl⟩
      rw [hw2] at hb ⊢
      clear hw2
      go_wp2_with (first | (go_at_call 31; first | (with_reducible refine (chain hb (K1.out _)).mono ?_; clear hb; rintro e w2 ⟨rfl, hb⟩) | (with_reducible refine (chain hb (K14.out _)).mono ?_; clear hb; rintro e w2 ⟨rfl, hb⟩)) | (go_at_call 22; refine (chain hb (K11.out _ (E.below hb))).mono ?_; clear hb; rintro e w2 ⟨rfl, hb⟩) | (go_at_call 17; refine (chain hb (K12.out _ (E.below hb))).mono ?_; clear hb; rintro e w2 ⟨rfl, hb⟩) | (go_at_call 13; refine (chain hb (K13.out _ (E.below hb))).mono ?_; clear hb; rintro e w2 ⟨rfl, hb⟩) | (go_at_call 32; refine (chain hb (K15.out _)).mono ?_; clear hb; rintro e w2 ⟨rfl, hb⟩) | (go_at_call 30; refine (chain hb (K16.out _)).mono ?_; clear hb; rintro e w2 ⟨rfl, hb⟩))
      go_ret
      exact ⟨rfl, hb⟩
  · by_cases hy0 : y = 0
    · obtain ⟨X, rfl⟩ : ∃ X : Nat, x = (X : Int) := ⟨x.toNat, by omega⟩
      obtain ⟨R, hR⟩ : ∃ R, rootN X = R := ⟨_, rfl⟩
      have hir : IsRoot R X := by rw [← hR]; exact rootN_is X
      have hRX : R ≤ X := by rw [← hR]; exact rootN_le X
      have dR : dlen (R : Int) ≤ 1000 := dle R (X : Int) hRX hdx
      have dR1 : dlen ((R : Int) + 1) ≤ 1001 := dlen_add R 1 1000 (by decide) dR (by decide +kernel)
      have e49 : itoaB 1 = ⟨#[49]⟩ := by decide +kernel
      have hc1 : ((R : Int) * R - X).sign ≤ 0 := by
        have h1 : ((R * R : Nat) : Int) ≤ (X : Int) := Int.ofNat_le.2 hir.1
        rw [Int.natCast_mul] at h1
        rcases Int.lt_or_eq_of_le h1 with h | h
        · rw [Int.sign_eq_neg_one_of_neg (by omega)]; decide
        · rw [h, Int.sub_self]; decide
      have hc2 : 0 < (((R : Int) + 1) * ((R : Int) + 1) - X).sign := by
        have h1 : (X : Int) < (((R + 1) * (R + 1) : Nat) : Int) := Int.ofNat_lt.2 hir.2
        rw [Int.natCast_mul, Int.natCast_add] at h1
        have h2 : (X : Int) < ((R : Int) + 1) * ((R : Int) + 1) := h1
        rw [Int.sign_eq_one_of_pos (by omega)]; decide
      have hs0 : 0 ≤ (X : Int).sign := by
        rcases Nat.eq_zero_or_pos X with h | h
        · subst h; decide
        · rw [Int.sign_eq_one_of_pos (by omega)]; decide
      have k1 : ∀ w, Calls Tryz.prog 31 #[.string (itoaB ((X : Int)))] w fun e w' => e = .returned (.int .i64 (X : Int).sign) ∧ Below w.heap.size w w' := fun w => sign_any X w
      have k2 : ∀ w, Env w → Calls Tryz.prog 27 #[.string (itoaB ((X : Int)))] w fun e w' => e = .returned (.tuple #[.string (itoaB (R : Int)), .int .i64 0]) ∧ Below w.heap.size w w' := fun w E => by have := root_any X w E (by omega); rwa [hR] at this
      have k3 : ∀ w, Env w → Calls Tryz.prog 13 #[.string (itoaB ((R : Int))), .string ⟨#[49]⟩] w fun e w' => e = .returned (.string (itoaB ((R : Int) + 1))) ∧ Below w.heap.size w w' := fun w E => by have := add_any R 1 w E (by omega) (by decide +kernel); rwa [e49] at this
      have k4 : ∀ w, Env w → Calls Tryz.prog 17 #[.string (itoaB ((R : Int))), .string (itoaB ((R : Int)))] w fun e w' => e = .returned (.string (itoaB ((R : Int) * R))) ∧ Below w.heap.size w w' := fun w E => mul_any R R w E (by omega) (by omega)
      have k5 : ∀ w, Calls Tryz.prog 30 #[.string (itoaB ((R : Int) * R)), .string (itoaB ((X : Int)))] w fun e w' => e = .returned (.int .i64 ((R : Int) * R - X).sign) ∧ Below w.heap.size w w' := fun w => compare_any _ _ w
      have k6 : ∀ w, Env w → Calls Tryz.prog 17 #[.string (itoaB ((R : Int) + 1)), .string (itoaB ((R : Int) + 1))] w fun e w' => e = .returned (.string (itoaB (((R : Int) + 1) * ((R : Int) + 1)))) ∧ Below w.heap.size w w' := fun w E => mul_any _ _ w E (by omega) (by omega)
      have k7 : ∀ w, Calls Tryz.prog 30 #[.string (itoaB (((R : Int) + 1) * ((R : Int) + 1))), .string (itoaB ((X : Int)))] w fun e w' => e = .returned (.int .i64 (((R : Int) + 1) * ((R : Int) + 1) - X).sign) ∧ Below w.heap.size w w' := fun w => compare_any _ _ w
      subst hy0
      have g0 : itoaB 0 = ⟨#[48]⟩ := (itoa_eq_zero 0).2 rfl
      obtain ⟨sg, gsg⟩ : ∃ v, (X : Int).sign = v := ⟨_, rfl⟩
      obtain ⟨o1, go1⟩ : ∃ v, ((R : Int) * R - X).sign = v := ⟨_, rfl⟩
      obtain ⟨o2, go2⟩ : ∃ v, (((R : Int) + 1) * ((R : Int) + 1) - X).sign = v := ⟨_, rfl⟩
      simp only [gsg, go1, go2] at k1 k2 k3 k4 k5 k6 k7 hc1 hc2 hs0
      obtain ⟨nn, gnn⟩ : ∃ v, itoaB (((R : Int) + 1) * ((R : Int) + 1)) = v := ⟨_, rfl⟩
      obtain ⟨rr, grr⟩ : ∃ v, itoaB ((R : Int) * R) = v := ⟨_, rfl⟩
      obtain ⟨nx, gnx⟩ : ∃ v, itoaB ((R : Int) + 1) = v := ⟨_, rfl⟩
      obtain ⟨rt, grt⟩ : ∃ v, itoaB (R : Int) = v := ⟨_, rfl⟩
      obtain ⟨a, ga⟩ : ∃ v, itoaB (X : Int) = v := ⟨_, rfl⟩
      simp only [gnn, grr, gnx, grt, ga, g0] at k1 k2 k3 k4 k5 k6 k7 M1 M2
      have hso : (0 : Int) ≤ sg := hs0
      have hso1 : ¬ (0 : Int) < o1 := by omega
      have hso2 : ¬ o2 ≤ 0 := by omega
      have K1 := Lib.hid k1
      have K2 := Lib.hid k2
      have K3 := Lib.hid k3
      have K4 := Lib.hid k4
      have K5 := Lib.hid k5
      have K6 := Lib.hid k6
      have K7 := Lib.hid k7
      clear k1 k2 k3 k4 k5 k6 k7 gsg go1 go2 gnn grr gnx grt ga g0 hdx  dle hc1 hc2 hs0 hir hRX dR dR1 e49 hR
      have hbb1 : Below w.heap.size w (w.alloc (.cells #[.bool b1, .slice p1 n1 c1] 24)) := (Below.refl _ _).alloc (Nat.le_refl _) _
      have hbb2 := hbb1.alloc hbb1.size (.cells #[.bool b2, .slice p2 n2 c2] 24)
      go_enter Tryz.func10, Tryz.ntmps10
      go_wp2_with (go_at_call 11; refine (known_any _ (E.below hbb2)).mono ?_; rintro e w1 ⟨rfl, hb3⟩; refine Hid.out ?_)
      refine Lib.hid ?_
      have x0 : w1.cell? ⟨w.heap.size, 0, none⟩ = some (Value.bool b1) := by rw [hb3.cell (p := ⟨w.heap.size, 0, none⟩) (by simp only [World.size_alloc]; omega)]; simp [go_sem]
      have x1 : w1.cell? ⟨w.heap.size, 1, none⟩ = some (Value.slice p1 n1 c1) := by rw [hb3.cell (p := ⟨w.heap.size, 1, none⟩) (by simp only [World.size_alloc]; omega)]; simp [go_sem]
      have x2 : w1.cell? ⟨w.heap.size + 1, 0, none⟩ = some (Value.bool b2) := by rw [hb3.cell (p := ⟨w.heap.size + 1, 0, none⟩) (by simp only [World.size_alloc]; omega)]; simp [go_sem]
      have x3 : w1.cell? ⟨w.heap.size + 1, 1, none⟩ = some (Value.slice p2 n2 c2) := by rw [hb3.cell (p := ⟨w.heap.size + 1, 1, none⟩) (by simp only [World.size_alloc]; omega)]; simp [go_sem]
      have hb := hbb2.trans (hb3.mono hbb2.size)
      clear hb3 hbb1 hbb2
      have y0 : ∀ d os, (grow (redrawn w1 d) os).cell? ⟨w.heap.size, 0, none⟩ = some (Value.bool b1) := cell_regrown x0
      have y1 : ∀ d os, (grow (redrawn w1 d) os).cell? ⟨w.heap.size, 1, none⟩ = some (Value.slice p1 n1 c1) := cell_regrown x1
      have y2 : ∀ d os, (grow (redrawn w1 d) os).cell? ⟨w.heap.size + 1, 0, none⟩ = some (Value.bool b2) := cell_regrown x2
      have y3 : ∀ d os, (grow (redrawn w1 d) os).cell? ⟨w.heap.size + 1, 1, none⟩ = some (Value.slice p2 n2 c2) := cell_regrown x3
      have r1 := fun d os => Calls.regrown_of (M1.out (grow (redrawn w1 d) os) (hb.trans ((below_regrown w1 d os).mono hb.size)))
      have r2 := fun d os => Calls.regrown_of (M2.out (grow (redrawn w1 d) os) (hb.trans ((below_regrown w1 d os).mono hb.size)))
      have RR1 := Lib.hid r1
      have RR2 := Lib.hid r2
      clear r1 r2 x0 x1 x2 x3
      go_wp2
      refine wp_region_quiet_below (by first | assumption | kernel_rfl) (by kernel_rfl) ?_
      repeat (quiet_step (first | (with_reducible exact RR1.out _ _) | (with_reducible exact RR2.out _ _)))
      refine wpQuiet_nil ?_
      intro _ hw'
      obtain ⟨⟨dq, osq⟩, hw''⟩ := hw'
      subst hw''
      replace hb := hb.trans ((below_regrown w1 dq osq).mono hb.size)
      clear y0 y1 y2 y3 RR1 RR2 M1 M2
      obtain ⟨w2, hw2⟩ : ∃ w2, grow (redrawn w1 dq) osq = w2 := ⟨_, rfl⟩
      rw [hw2] at hb ⊢
      clear hw2
      go_wp2_with (first | (go_at_call 31; refine (chain hb (K1.out _)).mono ?_; clear hb; rintro e w2 ⟨rfl, hb⟩) | (go_at_call 27; refine (chain hb (K2.out _ (E.below hb))).mono ?_; clear hb; rintro e w2 ⟨rfl, hb⟩) | (go_at_call 13; refine (chain hb (K3.out _ (E.below hb))).mono ?_; clear hb; rintro e w2 ⟨rfl, hb⟩) | (go_at_call 17; first | (with_reducible refine (chain hb (K4.out _ (E.below hb))).mono ?_; clear hb; rintro e w2 ⟨rfl, hb⟩) | (with_reducible refine (chain hb (K6.out _ (E.below hb))).mono ?_; clear hb; rintro e w2 ⟨rfl, hb⟩)) | (go_at_call 30; first | (with_reducible refine (chain hb (K5.out _)).mono ?_; clear hb; rintro e w2 ⟨rfl, hb⟩) | (with_reducible refine (chain hb (K7.out _)).mono ?_; clear hb; rintro e w2 ⟨rfl, hb⟩)))
      go_ret
      exact ⟨rfl, hb⟩
    · obtain ⟨X, rfl⟩ : ∃ X : Nat, x = (X : Int) := ⟨x.toNat, by omega⟩
      obtain ⟨R, hR⟩ : ∃ R, rootN X = R := ⟨_, rfl⟩
      have hir : IsRoot R X := by rw [← hR]; exact rootN_is X
      have hRX : R ≤ X := by rw [← hR]; exact rootN_le X
      have dR : dlen (R : Int) ≤ 1000 := dle R (X : Int) hRX hdx
      have dR1 : dlen ((R : Int) + 1) ≤ 1001 := dlen_add R 1 1000 (by decide) dR (by decide +kernel)
      have e49 : itoaB 1 = ⟨#[49]⟩ := by decide +kernel
      have hc1 : ((R : Int) * R - X).sign ≤ 0 := by
        have h1 : ((R * R : Nat) : Int) ≤ (X : Int) := Int.ofNat_le.2 hir.1
        rw [Int.natCast_mul] at h1
        rcases Int.lt_or_eq_of_le h1 with h | h
        · rw [Int.sign_eq_neg_one_of_neg (by omega)]; decide
        · rw [h, Int.sub_self]; decide
      have hc2 : 0 < (((R : Int) + 1) * ((R : Int) + 1) - X).sign := by
        have h1 : (X : Int) < (((R + 1) * (R + 1) : Nat) : Int) := Int.ofNat_lt.2 hir.2
        rw [Int.natCast_mul, Int.natCast_add] at h1
        have h2 : (X : Int) < ((R : Int) + 1) * ((R : Int) + 1) := h1
        rw [Int.sign_eq_one_of_pos (by omega)]; decide
      have hs0 : 0 ≤ (X : Int).sign := by
        rcases Nat.eq_zero_or_pos X with h | h
        · subst h; decide
        · rw [Int.sign_eq_one_of_pos (by omega)]; decide
      have k1 : ∀ w, Calls Tryz.prog 31 #[.string (itoaB ((X : Int)))] w fun e w' => e = .returned (.int .i64 (X : Int).sign) ∧ Below w.heap.size w w' := fun w => sign_any X w
      have k2 : ∀ w, Env w → Calls Tryz.prog 27 #[.string (itoaB ((X : Int)))] w fun e w' => e = .returned (.tuple #[.string (itoaB (R : Int)), .int .i64 0]) ∧ Below w.heap.size w w' := fun w E => by have := root_any X w E (by omega); rwa [hR] at this
      have k3 : ∀ w, Env w → Calls Tryz.prog 13 #[.string (itoaB ((R : Int))), .string ⟨#[49]⟩] w fun e w' => e = .returned (.string (itoaB ((R : Int) + 1))) ∧ Below w.heap.size w w' := fun w E => by have := add_any R 1 w E (by omega) (by decide +kernel); rwa [e49] at this
      have k4 : ∀ w, Env w → Calls Tryz.prog 17 #[.string (itoaB ((R : Int))), .string (itoaB ((R : Int)))] w fun e w' => e = .returned (.string (itoaB ((R : Int) * R))) ∧ Below w.heap.size w w' := fun w E => mul_any R R w E (by omega) (by omega)
      have k5 : ∀ w, Calls Tryz.prog 30 #[.string (itoaB ((R : Int) * R)), .string (itoaB ((X : Int)))] w fun e w' => e = .returned (.int .i64 ((R : Int) * R - X).sign) ∧ Below w.heap.size w w' := fun w => compare_any _ _ w
      have k6 : ∀ w, Env w → Calls Tryz.prog 17 #[.string (itoaB ((R : Int) + 1)), .string (itoaB ((R : Int) + 1))] w fun e w' => e = .returned (.string (itoaB (((R : Int) + 1) * ((R : Int) + 1)))) ∧ Below w.heap.size w w' := fun w E => mul_any _ _ w E (by omega) (by omega)
      have k7 : ∀ w, Calls Tryz.prog 30 #[.string (itoaB (((R : Int) + 1) * ((R : Int) + 1))), .string (itoaB ((X : Int)))] w fun e w' => e = .returned (.int .i64 (((R : Int) + 1) * ((R : Int) + 1) - X).sign) ∧ Below w.heap.size w w' := fun w => compare_any _ _ w
      have dQ : dlen ((X : Int) / y) ≤ 1000 := by
        have := dle ((X : Int) / y).natAbs (X : Int) (Int.natAbs_ediv_le_natAbs _ _) hdx
        unfold dlen at *; rwa [Int.natAbs_natCast] at this
      have hr0 := Int.emod_nonneg (X : Int) hy0
      have hr1 := Int.emod_lt (X : Int) hy0
      have dM : dlen ((X : Int) % y) ≤ 1000 := by
        have := dle ((X : Int) % y).natAbs y (by omega) hdy
        unfold dlen at *; rwa [Int.natAbs_natCast] at this
      have dQy := dlen_mul ((X : Int) / y) y 1000 1000 (by decide) dQ hdy
      have hz : ((itoaB y).toList == [48]) = false := by
        rw [← decide_eq_false hy0, Bool.eq_iff_iff, beq_iff_eq, decide_eq_true_iff, ← itoa_eq_zero, Lib.toList_data]
        exact ⟨fun h => dat_inj h, fun h => by rw [h]⟩
      have hs3 : 0 ≤ ((X : Int) % y).sign := by
        rcases Int.lt_or_eq_of_le hr0 with h | h
        · rw [Int.sign_eq_one_of_pos h]; decide
        · rw [← h]; decide
      have hs4 : ((X : Int) % y - (y.natAbs : Int)).sign < 0 := by rw [Int.sign_eq_neg_one_of_neg (by omega)]; decide
      have k11 : ∀ w, Env w → Calls Tryz.prog 22 #[.string (itoaB ((X : Int))), .string (itoaB (y))] w fun e w' => e = .returned (.tuple #[.string (itoaB ((X : Int) / y)), .string (itoaB ((X : Int) % y)), .int .i64 0]) ∧ Below w.heap.size w w' := fun w E => divMod_any _ y w E (by omega) (by omega) hy0
      have k12 : ∀ w, Env w → Calls Tryz.prog 17 #[.string (itoaB ((X : Int) / y)), .string (itoaB (y))] w fun e w' => e = .returned (.string (itoaB ((X : Int) / y * y))) ∧ Below w.heap.size w w' := fun w E => mul_any _ _ w E (by omega) (by omega)
      have k13 : ∀ w, Env w → Calls Tryz.prog 13 #[.string (itoaB ((X : Int) / y * y)), .string (itoaB ((X : Int) % y))] w fun e w' => e = .returned (.string (itoaB ((X : Int)))) ∧ Below w.heap.size w w' := fun w E => by have := add_any ((X : Int) / y * y) ((X : Int) % y) w E (by omega) (by omega); rwa [Int.ediv_mul_add_emod] at this
      have k14 : ∀ w, Calls Tryz.prog 31 #[.string (itoaB ((X : Int) % y))] w fun e w' => e = .returned (.int .i64 ((X : Int) % y).sign) ∧ Below w.heap.size w w' := fun w => sign_any _ w
      have k15 : ∀ w, Calls Tryz.prog 32 #[.string (itoaB (y))] w fun e w' => e = .returned (.string (itoaB ((y.natAbs : Int)))) ∧ Below w.heap.size w w' := fun w => abs_any y w
      have k16 : ∀ w, Calls Tryz.prog 30 #[.string (itoaB ((X : Int) % y)), .string (itoaB ((y.natAbs : Int)))] w fun e w' => e = .returned (.int .i64 ((X : Int) % y - (y.natAbs : Int)).sign) ∧ Below w.heap.size w w' := fun w => compare_any _ _ w
      obtain ⟨sg, gsg⟩ : ∃ v, (X : Int).sign = v := ⟨_, rfl⟩
      obtain ⟨o1, go1⟩ : ∃ v, ((R : Int) * R - X).sign = v := ⟨_, rfl⟩
      obtain ⟨o2, go2⟩ : ∃ v, (((R : Int) + 1) * ((R : Int) + 1) - X).sign = v := ⟨_, rfl⟩
      obtain ⟨s3, gs3⟩ : ∃ v, ((X : Int) % y).sign = v := ⟨_, rfl⟩
      obtain ⟨o3, go3⟩ : ∃ v, ((X : Int) % y - (y.natAbs : Int)).sign = v := ⟨_, rfl⟩
      simp only [gsg, go1, go2, gs3, go3] at k1 k2 k3 k4 k5 k6 k7 k11 k12 k13 k14 k15 k16 hc1 hc2 hs0 hs3 hs4
      obtain ⟨nn, gnn⟩ : ∃ v, itoaB (((R : Int) + 1) * ((R : Int) + 1)) = v := ⟨_, rfl⟩
      obtain ⟨rr, grr⟩ : ∃ v, itoaB ((R : Int) * R) = v := ⟨_, rfl⟩
      obtain ⟨nx, gnx⟩ : ∃ v, itoaB ((R : Int) + 1) = v := ⟨_, rfl⟩
      obtain ⟨rt, grt⟩ : ∃ v, itoaB (R : Int) = v := ⟨_, rfl⟩
      obtain ⟨a, ga⟩ : ∃ v, itoaB (X : Int) = v := ⟨_, rfl⟩
      obtain ⟨qy, gqy⟩ : ∃ v, itoaB ((X : Int) / y * y) = v := ⟨_, rfl⟩
      obtain ⟨q, gq⟩ : ∃ v, itoaB ((X : Int) / y) = v := ⟨_, rfl⟩
      obtain ⟨rm, grm⟩ : ∃ v, itoaB ((X : Int) % y) = v := ⟨_, rfl⟩
      obtain ⟨ab, gab⟩ : ∃ v, itoaB (y.natAbs : Int) = v := ⟨_, rfl⟩
      obtain ⟨b, gb⟩ : ∃ v, itoaB y = v := ⟨_, rfl⟩
      simp only [gnn, grr, gnx, grt, ga, gqy, gq, grm, gab, gb] at k1 k2 k3 k4 k5 k6 k7 k11 k12 k13 k14 k15 k16 M1 M2 hz
      have hso : (0 : Int) ≤ sg := hs0
      have hso1 : ¬ (0 : Int) < o1 := by omega
      have hso2 : ¬ o2 ≤ 0 := by omega
      have hso3 : (0 : Int) ≤ s3 := hs3
      have hso4 : o3 < 0 := hs4
      have K1 := Lib.hid k1
      have K2 := Lib.hid k2
      have K3 := Lib.hid k3
      have K4 := Lib.hid k4
      have K5 := Lib.hid k5
      have K6 := Lib.hid k6
      have K7 := Lib.hid k7
      have K11 := Lib.hid k11
      have K12 := Lib.hid k12
      have K13 := Lib.hid k13
      have K14 := Lib.hid k14
      have K15 := Lib.hid k15
      have K16 := Lib.hid k16
      clear k1 k2 k3 k4 k5 k6 k7 k11 k12 k13 k14 k15 k16 gsg go1 go2 gs3 go3 gnn grr gnx grt ga gqy gq grm gab gb hdx hdy dle hc1 hc2 hs0 hir hRX dR dR1 e49 hR hs3 hs4 dQ dM dQy hr0 hr1
      have hbb1 : Below w.heap.size w (w.alloc (.cells #[.bool b1, .slice p1 n1 c1] 24)) := (Below.refl _ _).alloc (Nat.le_refl _) _
      have hbb2 := hbb1.alloc hbb1.size (.cells #[.bool b2, .slice p2 n2 c2] 24)
      go_enter Tryz.func10, Tryz.ntmps10
      go_wp2_with (go_at_call 11; refine (known_any _ (E.below hbb2)).mono ?_; rintro e w1 ⟨rfl, hb3⟩; refine Hid.out ?_)
      refine Lib.hid ?_
      have x0 : w1.cell? ⟨w.heap.size, 0, none⟩ = some (Value.bool b1) := by rw [hb3.cell (p := ⟨w.heap.size, 0, none⟩) (by simp only [World.size_alloc]; omega)]; simp [go_sem]
      have x1 : w1.cell? ⟨w.heap.size, 1, none⟩ = some (Value.slice p1 n1 c1) := by rw [hb3.cell (p := ⟨w.heap.size, 1, none⟩) (by simp only [World.size_alloc]; omega)]; simp [go_sem]
      have x2 : w1.cell? ⟨w.heap.size + 1, 0, none⟩ = some (Value.bool b2) := by rw [hb3.cell (p := ⟨w.heap.size + 1, 0, none⟩) (by simp only [World.size_alloc]; omega)]; simp [go_sem]
      have x3 : w1.cell? ⟨w.heap.size + 1, 1, none⟩ = some (Value.slice p2 n2 c2) := by rw [hb3.cell (p := ⟨w.heap.size + 1, 1, none⟩) (by simp only [World.size_alloc]; omega)]; simp [go_sem]
      have hb := hbb2.trans (hb3.mono hbb2.size)
      clear hb3 hbb1 hbb2
      have y0 : ∀ d os, (grow (redrawn w1 d) os).cell? ⟨w.heap.size, 0, none⟩ = some (Value.bool b1) := cell_regrown x0
      have y1 : ∀ d os, (grow (redrawn w1 d) os).cell? ⟨w.heap.size, 1, none⟩ = some (Value.slice p1 n1 c1) := cell_regrown x1
      have y2 : ∀ d os, (grow (redrawn w1 d) os).cell? ⟨w.heap.size + 1, 0, none⟩ = some (Value.bool b2) := cell_regrown x2
      have y3 : ∀ d os, (grow (redrawn w1 d) os).cell? ⟨w.heap.size + 1, 1, none⟩ = some (Value.slice p2 n2 c2) := cell_regrown x3
      have r1 := fun d os => Calls.regrown_of (M1.out (grow (redrawn w1 d) os) (hb.trans ((below_regrown w1 d os).mono hb.size)))
      have r2 := fun d os => Calls.regrown_of (M2.out (grow (redrawn w1 d) os) (hb.trans ((below_regrown w1 d os).mono hb.size)))
      have RR1 := Lib.hid r1
      have RR2 := Lib.hid r2
      clear r1 r2 x0 x1 x2 x3
      go_wp2
      refine wp_region_quiet_below (by first | assumption | kernel_rfl) (by kernel_rfl) ?_
      repeat (quiet_step (first | (with_reducible exact RR1.out _ _) | (with_reducible exact RR2.out _ _)))
      refine wpQuiet_nil ?_
      intro _ hw'
      obtain ⟨⟨dq, osq⟩, hw''⟩ := hw'
      subst hw''
      replace hb := hb.trans ((below_regrown w1 dq osq).mono hb.size)
      clear y0 y1 y2 y3 RR1 RR2 M1 M2
      obtain ⟨w2, hw2⟩ : ∃ w2, grow (redrawn w1 dq) osq = w2 := ⟨_, rfl⟩
      rw [hw2] at hb ⊢
      clear hw2
      go_wp2_with (first | (go_at_call 31; first | (with_reducible refine (chain hb (K1.out _)).mono ?_; clear hb; rintro e w2 ⟨rfl, hb⟩) | (with_reducible refine (chain hb (K14.out _)).mono ?_; clear hb; rintro e w2 ⟨rfl, hb⟩)) | (go_at_call 27; refine (chain hb (K2.out _ (E.below hb))).mono ?_; clear hb; rintro e w2 ⟨rfl, hb⟩) | (go_at_call 13; first | (with_reducible refine (chain hb (K3.out _ (E.below hb))).mono ?_; clear hb; rintro e w2 ⟨rfl, hb⟩) | (with_reducible refine (chain hb (K13.out _ (E.below hb))).mono ?_; clear hb; rintro e w2 ⟨rfl, hb⟩)) | (go_at_call 17; first | (with_reducible refine (chain hb (K4.out _ (E.below hb))).mono ?_; clear hb; rintro e w2 ⟨rfl, hb⟩) | (with_reducible refine (chain hb (K6.out _ (E.below hb))).mono ?_; clear hb; rintro e w2 ⟨rfl, hb⟩) | (with_reducible refine (chain hb (K12.out _ (E.below hb))).mono ?_; clear hb; rintro e w2 ⟨rfl, hb⟩)) | (go_at_call 30; first | (with_reducible refine (chain hb (K5.out _)).mono ?_; clear hb; rintro e w2 ⟨rfl, hb⟩) | (with_reducible refine (chain hb (K7.out _)).mono ?_; clear hb; rintro e w2 ⟨rfl, hb⟩) | (with_reducible refine (chain hb (K16.out _)).mono ?_; clear hb; rintro e w2 ⟨rfl, hb⟩)) | (go_at_call 22; refine (chain hb (K11.out _ (E.below hb))).mono ?_; clear hb; rintro e w2 ⟨rfl, hb⟩) | (go_at_call 32; refine (chain hb (K15.out _)).mono ?_; clear hb; rintro e w2 ⟨rfl, hb⟩))
      go_ret
      exact ⟨rfl, hb⟩
end Go.Proofs.YtkekdcmonenciaaGreatDoor.Kl
