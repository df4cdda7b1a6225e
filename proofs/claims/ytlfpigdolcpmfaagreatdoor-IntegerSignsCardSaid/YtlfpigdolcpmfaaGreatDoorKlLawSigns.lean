/- The walk of klippelaw01.IntegerSigns: true, whatever the descriptions. -/
import Derived.Test.YtlfpigdolcpmfaaGreatDoorKlKnown
import Derived.Test.YtlfpigdolcpmfaaGreatDoorKlMade
import Derived.Test.YtlfpigdolcpmfaaGreatDoorKlIsItoa
import Derived.Lib.QuietBelow
namespace Go.Proofs.YtlfpigdolcpmfaaGreatDoor.Kl
open Go Go.RowKit Go.Sort

/-- What a description makes is the text of an integer. -/
theorem made_itoa (b : Bool) {l : List UInt8} (hl : l.all isDig = true) (hll : l.length ≤ 200) : ∃ x : Int, strOf (makeS b l) = itoaB x ∧ dlen x ≤ 1000 := by
  obtain ⟨x, hx, hd⟩ := canon_is_itoa (canon_make b hl)
  refine ⟨x, by unfold itoaB; rw [← hx], ?_⟩
  have h1 := makeS_le b l
  have h2 := mag_length (makeS b l)
  rw [hd, h2]; omega

set_option maxRecDepth 100000 in
set_option maxHeartbeats 4000000 in
theorem lawSigns (b1 b2 : Bool) (p1 p2 : Option Addr) (n1 c1 n2 c2 : Nat) (l1 l2 : List UInt8) (hl1 : l1.all isDig = true) (hl2 : l2.all isDig = true) (hll1 : l1.length ≤ 200) (hll2 : l2.length ≤ 200) (w : World) (E : Env w)
    (hm1 : ∀ w', Below w.heap.size w w' → Calls Tryz.prog 13 #[.agg #[.bool b1, .slice p1 n1 c1], .int .i64 70] w' fun e w'' => e = .returned (.string (strOf (makeS b1 l1))) ∧ Below w'.heap.size w' w'')
    (hm2 : ∀ w', Below w.heap.size w w' → Calls Tryz.prog 13 #[.agg #[.bool b2, .slice p2 n2 c2], .int .i64 70] w' fun e w'' => e = .returned (.string (strOf (makeS b2 l2))) ∧ Below w'.heap.size w' w'') :
    Calls Tryz.prog 3 #[.agg #[.bool b1, .slice p1 n1 c1], .agg #[.bool b2, .slice p2 n2 c2]] w fun e w' => e = .returned (.bool true) ∧ Below w.heap.size w w' := by
  obtain ⟨x, hx, hdx⟩ := made_itoa b1 hl1 hll1
  obtain ⟨y, hy, hdy⟩ := made_itoa b2 hl2 hll2
  rw [hx] at hm1
  rw [hy] at hm2
  have M1 := Lib.hid hm1
  have M2 := Lib.hid hm2
  clear hx hy hm1 hm2 hl1 hl2
  have k1 : ∀ w, Calls Tryz.prog 14 #[.string (itoaB x)] w fun e w' => e = .returned (.int .i64 x.sign) ∧ Below w.heap.size w w' := fun w => sign_any x w
  have k2 : ∀ w, Calls Tryz.prog 15 #[.string (itoaB x)] w fun e w' => e = .returned (.int .i64 x.sign) ∧ Below w.heap.size w w' := fun w => refSign_any x w
  have k3 : ∀ w, Calls Tryz.prog 16 #[.string (itoaB x), .string (itoaB y)] w fun e w' => e = .returned (.int .i64 (x - y).sign) ∧ Below w.heap.size w w' := fun w => compare_any x y w
  have k4 : ∀ w, Env w → Calls Tryz.prog 17 #[.string (itoaB x), .string (itoaB y)] w fun e w' => e = .returned (.int .i64 (x - y).sign) ∧ Below w.heap.size w w' := fun w E => refCompare_any x y w E (by omega) (by omega)
  have k5 : ∀ w, Calls Tryz.prog 18 #[.string (itoaB x)] w fun e w' => e = .returned (.string (itoaB (-x))) ∧ Below w.heap.size w w' := fun w => neg_any x w (by omega)
  have k6 : ∀ w, Calls Tryz.prog 19 #[.string (itoaB x)] w fun e w' => e = .returned (.string (itoaB (-x))) ∧ Below w.heap.size w w' := fun w => refNeg_any x w (by omega)
  have k7 : ∀ w, Calls Tryz.prog 20 #[.string (itoaB x)] w fun e w' => e = .returned (.string (itoaB x.natAbs)) ∧ Below w.heap.size w w' := fun w => abs_any x w
  have k8 : ∀ w, Calls Tryz.prog 21 #[.string (itoaB x)] w fun e w' => e = .returned (.string (itoaB x.natAbs)) ∧ Below w.heap.size w w' := fun w => refAbs_any x w
  obtain ⟨s, hs⟩ : ∃ s, x.sign = s := ⟨_, rfl⟩
  obtain ⟨o, ho⟩ : ∃ o, (x - y).sign = o := ⟨_, rfl⟩
  obtain ⟨nx, hnx⟩ : ∃ nx, itoaB (-x) = nx := ⟨_, rfl⟩
  obtain ⟨ax, hax⟩ : ∃ ax, itoaB x.natAbs = ax := ⟨_, rfl⟩
  obtain ⟨a, ha⟩ : ∃ a, itoaB x = a := ⟨_, rfl⟩
  obtain ⟨b, hb0⟩ : ∃ b, itoaB y = b := ⟨_, rfl⟩
  simp only [hs, ho, hnx, hax, ha, hb0] at k1 k2 k3 k4 k5 k6 k7 k8 M1 M2
  have K1 := Lib.hid k1
  have K2 := Lib.hid k2
  have K3 := Lib.hid k3
  have K4 := Lib.hid k4
  have K5 := Lib.hid k5
  have K6 := Lib.hid k6
  have K7 := Lib.hid k7
  have K8 := Lib.hid k8
  clear k1 k2 k3 k4 k5 k6 k7 k8 hs ho hnx hax ha hb0 hdx hdy
  have hb1 : Below w.heap.size w (w.alloc (.cells #[.bool b1, .slice p1 n1 c1] 24)) := (Below.refl _ _).alloc (Nat.le_refl _) _
  have hb2 := hb1.alloc hb1.size (.cells #[.bool b2, .slice p2 n2 c2] 24)
  go_enter Tryz.func3, Tryz.ntmps3
  go_wp2_with (go_at_call 12; refine (known_any _ (E.below hb2)).mono ?_; rintro e w1 ⟨rfl, hb3⟩; refine Hid.out ?_)
  refine Lib.hid ?_
  have x0 : w1.cell? ⟨w.heap.size, 0, none⟩ = some (Value.bool b1) := by rw [hb3.cell (p := ⟨w.heap.size, 0, none⟩) (by simp only [World.size_alloc]; omega)]; simp [go_sem]
  have x1 : w1.cell? ⟨w.heap.size, 1, none⟩ = some (Value.slice p1 n1 c1) := by rw [hb3.cell (p := ⟨w.heap.size, 1, none⟩) (by simp only [World.size_alloc]; omega)]; simp [go_sem]
  have x2 : w1.cell? ⟨w.heap.size + 1, 0, none⟩ = some (Value.bool b2) := by rw [hb3.cell (p := ⟨w.heap.size + 1, 0, none⟩) (by simp only [World.size_alloc]; omega)]; simp [go_sem]
  have x3 : w1.cell? ⟨w.heap.size + 1, 1, none⟩ = some (Value.slice p2 n2 c2) := by rw [hb3.cell (p := ⟨w.heap.size + 1, 1, none⟩) (by simp only [World.size_alloc]; omega)]; simp [go_sem]
  have hsz : w.heap.size + 2 ≤ w1.heap.size := by have := hb3.size; simp only [World.size_alloc] at this; omega
  have hb := hb2.trans (hb3.mono hb2.size)
  clear hb1 hb2 hb3
  have y0 : ∀ d os, (grow (redrawn w1 d) os).cell? ⟨w.heap.size, 0, none⟩ = some (Value.bool b1) := cell_regrown x0
  have y1 : ∀ d os, (grow (redrawn w1 d) os).cell? ⟨w.heap.size, 1, none⟩ = some (Value.slice p1 n1 c1) := cell_regrown x1
  have y2 : ∀ d os, (grow (redrawn w1 d) os).cell? ⟨w.heap.size + 1, 0, none⟩ = some (Value.bool b2) := cell_regrown x2
  have y3 : ∀ d os, (grow (redrawn w1 d) os).cell? ⟨w.heap.size + 1, 1, none⟩ = some (Value.slice p2 n2 c2) := cell_regrown x3
  have r1 := fun d os => Calls.regrown_of (M1.out (grow (redrawn w1 d) os) (hb.trans ((below_regrown w1 d os).mono hb.size)))
  have r2 := fun d os => Calls.regrown_of (M2.out (grow (redrawn w1 d) os) (hb.trans ((below_regrown w1 d os).mono hb.size)))
  have R1 := Lib.hid r1
  have R2 := Lib.hid r2
  clear r1 r2 x0 x1 x2 x3
  go_wp2
  refine wp_region_quiet_below (by first | assumption | kernel_rfl) (by kernel_rfl) ?_
  repeat (quiet_step (first | (with_reducible exact R1.out _ _) | (with_reducible exact R2.out _ _)))
  refine wpQuiet_nil ?_
  intro _ hw'
  obtain ⟨⟨dq, osq⟩, hw''⟩ := hw'
  subst hw''
  replace hb := hb.trans ((below_regrown w1 dq osq).mono hb.size)
  clear y0 y1 y2 y3 R1 R2 M1 M2
  obtain ⟨w2, hw2⟩ : ∃ w2, grow (redrawn w1 dq) osq = w2 := ⟨_, rfl⟩
  rw [hw2] at hb ⊢
  clear hw2
  go_wp2_with (first
    | (go_at_call 14; refine (chain hb (K1.out _)).mono ?_; clear hb; rintro e w2 ⟨rfl, hb⟩)
    | (go_at_call 15; refine (chain hb (K2.out _)).mono ?_; clear hb; rintro e w2 ⟨rfl, hb⟩)
    | (go_at_call 16; refine (chain hb (K3.out _)).mono ?_; clear hb; rintro e w2 ⟨rfl, hb⟩)
    | (go_at_call 17; refine (chain hb (K4.out _ (E.below hb))).mono ?_; clear hb; rintro e w2 ⟨rfl, hb⟩)
    | (go_at_call 18; refine (chain hb (K5.out _)).mono ?_; clear hb; rintro e w2 ⟨rfl, hb⟩)
    | (go_at_call 19; refine (chain hb (K6.out _)).mono ?_; clear hb; rintro e w2 ⟨rfl, hb⟩)
    | (go_at_call 20; refine (chain hb (K7.out _)).mono ?_; clear hb; rintro e w2 ⟨rfl, hb⟩)
    | (go_at_call 21; refine (chain hb (K8.out _)).mono ?_; clear hb; rintro e w2 ⟨rfl, hb⟩))
  go_ret
  exact ⟨rfl, hb⟩
end Go.Proofs.YtlfpigdolcpmfaaGreatDoor.Kl
