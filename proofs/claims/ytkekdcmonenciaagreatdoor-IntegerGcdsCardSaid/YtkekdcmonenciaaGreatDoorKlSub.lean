/- Contracts: the reference's Neg, Sub, Sign, Compare on the texts of integers. -/
import Derived.Test.YtkekdcmonenciaaGreatDoorKlAdd2
namespace Go.Proofs.YtkekdcmonenciaaGreatDoor.Kl
open Go Go.RowKit

theorem dat_inj {a b : ByteArray} (h : a.data.toList = b.data.toList) : a = b := by
  cases a; cases b; congr; exact Array.toList_inj.1 h
theorem itoa_zero : itoaB 0 = ⟨#[48]⟩ := by unfold itoaB; rw [show Lib.itoa 0 = [48] by rw [itoa_nat _ (by decide)]; show Lib.decDigits 0 = _; rw [Lib.decDigits]; rfl]; rfl
theorem itoa_inj {x y : Int} (h : itoaB x = itoaB y) : x = y := by
  have hl : Lib.itoa x = Lib.itoa y := by rw [← itoaB_data, ← itoaB_data, h]
  have h1 := neg_itoa x
  have h2 := val_decDigits x.natAbs
  have h3 := val_decDigits y.natAbs
  rw [← mag_itoa] at h2 h3
  rw [hl] at h1 h2
  rw [neg_itoa] at h1
  rw [h3] at h2
  rw [decide_eq_decide] at h1
  omega
theorem itoa_eq_zero (x : Int) : itoaB x = ⟨#[48]⟩ ↔ x = 0 := by
  rw [← itoa_zero]; exact ⟨itoa_inj, fun h => by rw [h]⟩

set_option maxRecDepth 100000 in
set_option maxHeartbeats 1000000 in
theorem refSign_any (x : Int) (w : World) : Calls Tryz.prog 28 #[.string (itoaB x)] w fun e w' => e = .returned (.int .i64 x.sign) ∧ Below w.heap.size w w' := by
  have s1 : ∀ w, Calls Tryz.prog 42 #[.string (itoaB x)] w fun e w' => e = .returned (.tuple #[.bool (decide (x < 0)), .string (magB (itoaB x))]) ∧ Below w.heap.size w w' := fun w => split_any _ w _ (neg_itoaB x)
  have hz : ((itoaB x).toList == [48]) = decide (x = 0) := by
    rw [Bool.eq_iff_iff, beq_iff_eq, decide_eq_true_iff, ← itoa_eq_zero, Lib.toList_data]
    exact ⟨fun h => dat_inj h, fun h => by rw [h]⟩
  obtain ⟨m, hm⟩ : ∃ m, magB (itoaB x) = m := ⟨_, rfl⟩
  obtain ⟨a, ha⟩ : ∃ a, itoaB x = a := ⟨_, rfl⟩
  rw [hm, ha] at s1
  rw [ha] at hz ⊢
  have S1 := Lib.hid s1
  clear s1 hm ha
  have hb := Below.refl w.heap.size w
  go_enter Tryz.func28, Tryz.ntmps28
  rcases Int.lt_trichotomy x 0 with h | h | h
  · have e : x.sign = -1 := Int.sign_eq_neg_one_of_neg h
    rw [e]
    rw [decide_eq_true h] at S1
    clear e h hz
    go_wp2_with (go_at_call 42; refine (chain hb (S1.out _)).mono ?_; clear hb; rintro e w1 ⟨rfl, hb⟩)
    go_ret
    exact ⟨rfl, hb⟩
  · subst h
    rw [decide_eq_false (by decide)] at S1
    rw [decide_eq_true rfl] at hz
    go_wp2_with (go_at_call 42; refine (chain hb (S1.out _)).mono ?_; clear hb; rintro e w1 ⟨rfl, hb⟩)
    go_ret
    exact ⟨rfl, hb⟩
  · have e : x.sign = 1 := Int.sign_eq_one_of_pos h
    rw [e]
    rw [decide_eq_false (by omega)] at S1
    rw [decide_eq_false (by omega)] at hz
    clear e h
    go_wp2_with (go_at_call 42; refine (chain hb (S1.out _)).mono ?_; clear hb; rintro e w1 ⟨rfl, hb⟩)
    go_ret
    exact ⟨rfl, hb⟩
set_option maxRecDepth 100000 in
set_option maxHeartbeats 1000000 in
theorem refNeg_any (x : Int) (w : World) (hl : dlen x ≤ 100000) : Calls Tryz.prog 35 #[.string (itoaB x)] w fun e w' => e = .returned (.string (itoaB (-x))) ∧ Below w.heap.size w w' := by
  have s1 : ∀ w, Calls Tryz.prog 42 #[.string (itoaB x)] w fun e w' => e = .returned (.tuple #[.bool (decide (x < 0)), .string (magB (itoaB x))]) ∧ Below w.heap.size w w' := fun w => split_any _ w _ (neg_itoaB x)
  have hz : ((itoaB x).toList == [48]) = decide (x = 0) := by
    rw [Bool.eq_iff_iff, beq_iff_eq, decide_eq_true_iff, ← itoa_eq_zero, Lib.toList_data]
    exact ⟨fun h => dat_inj h, fun h => by rw [h]⟩
  have hms : (magB (itoaB x)).size ≤ 100000 := by rw [magB_dlen]; exact hl
  have hr0 : x ≤ 0 → magB (itoaB x) = itoaB (-x) := fun h => by
    rw [magB_itoa]; unfold itoaB
    rw [itoa_nat (-x) (by omega), show (-x).toNat = x.natAbs by omega]
  have hr1 : 0 < x → (⟨#[45]⟩ : ByteArray) ++ magB (itoaB x) = itoaB (-x) := fun h => by
    rw [magB_itoa, cat_minus]; unfold itoaB
    rw [← sgn_of (-x) true x.natAbs (by omega) (fun _ => by rw [decide_eq_true (by omega)])]
    unfold sgn; rw [decide_eq_true (by omega : 0 < x.natAbs)]; rfl
  obtain ⟨r, hr⟩ : ∃ r, itoaB (-x) = r := ⟨_, rfl⟩
  obtain ⟨m, hm⟩ : ∃ m, magB (itoaB x) = m := ⟨_, rfl⟩
  obtain ⟨a, ha⟩ : ∃ a, itoaB x = a := ⟨_, rfl⟩
  rw [hm, hr] at hr0 hr1
  rw [hm] at hms
  rw [hm, ha] at s1
  rw [ha] at hz
  rw [ha, hr]
  have S1 := Lib.hid s1
  clear s1 hm ha hr hl
  have hb := Below.refl w.heap.size w
  rcases Int.lt_trichotomy x 0 with h | h | h
  · have R := Lib.hid (hr0 (by omega))
    rw [decide_eq_true h] at S1
    rw [decide_eq_false (by omega)] at hz
    clear h hr0 hr1
    go_enter Tryz.func35, Tryz.ntmps35
    go_wp2_with (go_at_call 42; refine (chain hb (S1.out _)).mono ?_; clear hb; rintro e w1 ⟨rfl, hb⟩)
    go_ret
    exact ⟨retS R.out, hb⟩
  · have R := Lib.hid (hr0 (by omega))
    rw [decide_eq_false (by omega)] at S1
    rw [decide_eq_true h] at hz
    clear h hr0 hr1
    go_enter Tryz.func35, Tryz.ntmps35
    go_wp2_with (go_at_call 42; refine (chain hb (S1.out _)).mono ?_; clear hb; rintro e w1 ⟨rfl, hb⟩)
    go_ret
    exact ⟨retS R.out, hb⟩
  · have R := Lib.hid (hr1 h)
    rw [decide_eq_false (by omega)] at S1
    rw [decide_eq_false (by omega)] at hz
    clear h hr0 hr1
    go_enter Tryz.func35, Tryz.ntmps35
    go_wp2_with (go_at_call 42; refine (chain hb (S1.out _)).mono ?_; clear hb; rintro e w1 ⟨rfl, hb⟩)
    go_ret
    exact ⟨retS R.out, hb⟩
theorem dlen_neg (x : Int) : dlen (-x) = dlen x := by unfold dlen; rw [Int.natAbs_neg]
set_option maxRecDepth 100000 in
set_option maxHeartbeats 1000000 in
theorem refSub_any (x y : Int) (w : World) (E : Env w) (hx : dlen x ≤ 99999) (hy : dlen y ≤ 99999) :
    Calls Tryz.prog 16 #[.string (itoaB x), .string (itoaB y)] w fun e w' => e = .returned (.string (itoaB (x - y))) ∧ Below w.heap.size w w' := by
  have n1 : ∀ w, Calls Tryz.prog 35 #[.string (itoaB y)] w fun e w' => e = .returned (.string (itoaB (-y))) ∧ Below w.heap.size w w' := fun w => refNeg_any y w (by omega)
  have a1 : ∀ w, Env w → Calls Tryz.prog 14 #[.string (itoaB x), .string (itoaB (-y))] w fun e w' => e = .returned (.string (itoaB (x - y))) ∧ Below w.heap.size w w' := fun w E => by
    have := refAdd_any x (-y) w E hx (by rw [dlen_neg]; exact hy)
    rwa [← Int.sub_eq_add_neg] at this
  obtain ⟨r, hr⟩ : ∃ r, itoaB (x - y) = r := ⟨_, rfl⟩
  obtain ⟨c, hc⟩ : ∃ c, itoaB (-y) = c := ⟨_, rfl⟩
  obtain ⟨a, ha⟩ : ∃ a, itoaB x = a := ⟨_, rfl⟩
  obtain ⟨b, hb0⟩ : ∃ b, itoaB y = b := ⟨_, rfl⟩
  rw [hb0, hc] at n1
  rw [ha, hc, hr] at a1
  rw [ha, hb0, hr]
  have N1 := Lib.hid n1
  have A1 := Lib.hid a1
  clear n1 a1 hr hc ha hb0 hx hy
  have hb := Below.refl w.heap.size w
  go_enter Tryz.func16, Tryz.ntmps16
  go_wp2_with (first
    | (go_at_call 35; refine (chain hb (N1.out _)).mono ?_; clear hb; rintro e w1 ⟨rfl, hb⟩)
    | (go_at_call 14; refine (chain hb (A1.out _ (E.below hb))).mono ?_; clear hb; rintro e w1 ⟨rfl, hb⟩))
  go_ret
  exact ⟨rfl, hb⟩
set_option maxRecDepth 100000 in
set_option maxHeartbeats 1000000 in
theorem refCompare_any (x y : Int) (w : World) (E : Env w) (hx : dlen x ≤ 99999) (hy : dlen y ≤ 99999) :
    Calls Tryz.prog 62 #[.string (itoaB x), .string (itoaB y)] w fun e w' => e = .returned (.int .i64 (x - y).sign) ∧ Below w.heap.size w w' := by
  have n1 : ∀ w, Env w → Calls Tryz.prog 16 #[.string (itoaB x), .string (itoaB y)] w fun e w' => e = .returned (.string (itoaB (x - y))) ∧ Below w.heap.size w w' := fun w E => refSub_any x y w E hx hy
  have a1 : ∀ w, Calls Tryz.prog 28 #[.string (itoaB (x - y))] w fun e w' => e = .returned (.int .i64 (x - y).sign) ∧ Below w.heap.size w w' := fun w => refSign_any (x - y) w
  obtain ⟨z, hz⟩ : ∃ z, (x - y).sign = z := ⟨_, rfl⟩
  obtain ⟨r, hr⟩ : ∃ r, itoaB (x - y) = r := ⟨_, rfl⟩
  obtain ⟨a, ha⟩ : ∃ a, itoaB x = a := ⟨_, rfl⟩
  obtain ⟨b, hb0⟩ : ∃ b, itoaB y = b := ⟨_, rfl⟩
  rw [ha, hb0, hr] at n1
  rw [hr, hz] at a1
  rw [ha, hb0, hz]
  have N1 := Lib.hid n1
  have A1 := Lib.hid a1
  clear n1 a1 hr hz ha hb0 hx hy
  have hb := Below.refl w.heap.size w
  go_enter Tryz.func62, Tryz.ntmps62
  go_wp2_with (first
    | (go_at_call 16; refine (chain hb (N1.out _ (E.below hb))).mono ?_; clear hb; rintro e w1 ⟨rfl, hb⟩)
    | (go_at_call 28; refine (chain hb (A1.out _)).mono ?_; clear hb; rintro e w1 ⟨rfl, hb⟩))
  go_ret
  exact ⟨rfl, hb⟩
end Go.Proofs.YtkekdcmonenciaaGreatDoor.Kl
