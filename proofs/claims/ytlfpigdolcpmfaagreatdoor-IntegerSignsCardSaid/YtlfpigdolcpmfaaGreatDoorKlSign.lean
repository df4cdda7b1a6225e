/- Contracts: integer's Sign, Neg, Abs on the texts of integers. -/
import Derived.Test.YtlfpigdolcpmfaaGreatDoorKlSub
namespace Go.Proofs.YtlfpigdolcpmfaaGreatDoor.Kl
open Go Go.RowKit

theorem itoa_pos_size (x : Int) : 0 < (itoaB x).size := by
  unfold itoaB; rw [strOf_size]
  unfold Lib.itoa; split
  · simp
  · exact List.length_pos_iff.2 (decDigits_ne _)
set_option maxRecDepth 100000 in
set_option maxHeartbeats 1000000 in
theorem sign_any (x : Int) (w : World) : Calls Tryz.prog 14 #[.string (itoaB x)] w fun e w' => e = .returned (.int .i64 x.sign) ∧ Below w.heap.size w w' := by
  have hz : ((itoaB x).toList == [48]) = decide (x = 0) := by
    rw [Bool.eq_iff_iff, beq_iff_eq, decide_eq_true_iff, ← itoa_eq_zero, Lib.toList_data]
    exact ⟨fun h => dat_inj h, fun h => by rw [h]⟩
  have h0 := itoa_pos_size x
  have he : ((itoaB x).toList == []) = false := by
    rw [beq_eq_false_iff_ne, Lib.toList_data]
    intro h; rw [size_len, h] at h0; exact absurd h0 (by decide)
  have hn := neg_itoaB x
  obtain ⟨a, ha⟩ : ∃ a, itoaB x = a := ⟨_, rfl⟩
  rw [ha] at hz he h0 hn ⊢
  rw [neg_of a h0] at hn
  clear ha
  have h0' : (0 : Int) < (a.size : Int) := by omega
  rcases Int.lt_trichotomy x 0 with h | h | h
  · have e : x.sign = -1 := Int.sign_eq_neg_one_of_neg h
    rw [e]
    have h2 : ((a[0].toNat : Int) == 45) = true := byte_eq (d := 45) rfl (by rw [decide_eq_true h] at hn; simpa using hn)
    rw [decide_eq_false (by omega)] at hz
    clear e h hn
    go_enter Tryz.func14, Tryz.ntmps14
    go_wp2
    go_ret
    exact ⟨rfl, Below.refl _ _⟩
  · have e : x.sign = 0 := by rw [h]; rfl
    rw [e]
    rw [decide_eq_true h] at hz
    clear e h hn
    go_enter Tryz.func14, Tryz.ntmps14
    go_wp2
    go_ret
    exact ⟨rfl, Below.refl _ _⟩
  · have e : x.sign = 1 := Int.sign_eq_one_of_pos h
    rw [e]
    have h2 : ((a[0].toNat : Int) == 45) = false := byte_ne (d := 45) rfl (by rw [decide_eq_false (by omega)] at hn; simpa using hn)
    rw [decide_eq_false (by omega)] at hz
    clear e h hn
    go_enter Tryz.func14, Tryz.ntmps14
    go_wp2
    go_ret
    exact ⟨rfl, Below.refl _ _⟩
set_option maxRecDepth 100000 in
set_option maxHeartbeats 1000000 in
/-- The program's opposite. -/
theorem neg_any (x : Int) (w : World) (hl : dlen x ≤ 100000) : Calls Tryz.prog 18 #[.string (itoaB x)] w fun e w' => e = .returned (.string (itoaB (-x))) ∧ Below w.heap.size w w' := by
  have s1 : ∀ w, Calls Tryz.prog 14 #[.string (itoaB x)] w fun e w' => e = .returned (.int .i64 x.sign) ∧ Below w.heap.size w w' := fun w => sign_any x w
  have hsz : (itoaB x).size ≤ 100001 := itoaB_size x hl
  have h0 := itoa_pos_size x
  have hr0 : x < 0 → (itoaB x).extract 1 (itoaB x).size = itoaB (-x) := fun h => by
    rw [magB_minus _ (by rw [neg_itoaB, decide_eq_true h]), magB_itoa]; unfold itoaB
    rw [itoa_nat (-x) (by omega), show (-x).toNat = x.natAbs by omega]
  have hr1 : 0 < x → (⟨#[45]⟩ : ByteArray) ++ itoaB x = itoaB (-x) := fun h => by
    rw [magB_plus (itoaB x) (by rw [neg_itoaB, decide_eq_false (by omega)]), magB_itoa, cat_minus]; unfold itoaB
    rw [← sgn_of (-x) true x.natAbs (by omega) (fun _ => by rw [decide_eq_true (by omega)])]
    unfold sgn; rw [decide_eq_true (by omega : 0 < x.natAbs)]; rfl
  have hr2 : x = 0 → (⟨#[48]⟩ : ByteArray) = itoaB (-x) := fun h => by rw [h]; exact itoa_zero.symm
  obtain ⟨r, hr⟩ : ∃ r, itoaB (-x) = r := ⟨_, rfl⟩
  obtain ⟨a, ha⟩ : ∃ a, itoaB x = a := ⟨_, rfl⟩
  rw [hr] at hr0 hr1 hr2
  rw [ha] at s1 hsz h0 hr0 hr1
  rw [ha, hr]
  clear ha hr hl
  have h0' : (0 : Int) < (a.size : Int) := by omega
  have hb := Below.refl w.heap.size w
  rcases Int.lt_trichotomy x 0 with h | h | h
  · have R := Lib.hid (hr0 h)
    rw [show x.sign = -1 from Int.sign_eq_neg_one_of_neg h] at s1
    have S1 := Lib.hid s1
    clear h hr0 hr1 hr2 s1
    go_enter Tryz.func18, Tryz.ntmps18
    go_wp2_with (go_at_call 14; refine (chain hb (S1.out _)).mono ?_; clear hb; rintro e w1 ⟨rfl, hb⟩)
    go_ret
    exact ⟨retS R.out, hb⟩
  · have R := Lib.hid (hr2 h)
    rw [show x.sign = 0 by rw [h]; rfl] at s1
    have S1 := Lib.hid s1
    clear h hr0 hr1 hr2 s1
    go_enter Tryz.func18, Tryz.ntmps18
    go_wp2_with (go_at_call 14; refine (chain hb (S1.out _)).mono ?_; clear hb; rintro e w1 ⟨rfl, hb⟩)
    go_ret
    exact ⟨retS R.out, hb⟩
  · have R := Lib.hid (hr1 h)
    rw [show x.sign = 1 from Int.sign_eq_one_of_pos h] at s1
    have S1 := Lib.hid s1
    clear h hr0 hr1 hr2 s1
    go_enter Tryz.func18, Tryz.ntmps18
    go_wp2_with (go_at_call 14; refine (chain hb (S1.out _)).mono ?_; clear hb; rintro e w1 ⟨rfl, hb⟩)
    go_ret
    exact ⟨retS R.out, hb⟩
end Go.Proofs.YtlfpigdolcpmfaaGreatDoor.Kl
