/- Contracts: integer's Sign on the texts of integers. -/
import Derived.Test.YtkekdcmonenciaaGreatDoorKlSub
namespace Go.Proofs.YtkekdcmonenciaaGreatDoor.Kl
open Go Go.RowKit

theorem itoa_pos_size (x : Int) : 0 < (itoaB x).size := by
  unfold itoaB; rw [strOf_size]
  unfold Lib.itoa; split
  · simp
  · exact List.length_pos_iff.2 (decDigits_ne _)
set_option maxRecDepth 100000 in
set_option maxHeartbeats 1000000 in
theorem sign_any (x : Int) (w : World) : Calls Tryz.prog 31 #[.string (itoaB x)] w fun e w' => e = .returned (.int .i64 x.sign) ∧ Below w.heap.size w w' := by
  have hz : ((itoaB x).toList == [48]) = decide (x = 0) := by
    rw [Bool.eq_iff_iff, beq_iff_eq, decide_eq_true_iff, ← itoa_eq_zero, Lib.toList_data]
    exact ⟨fun h => dat_inj h, fun h => by rw [h]⟩
  have h0 := itoa_pos_size x
  have he : ((itoaB x).toList == []) = false := by
    rw [beq_eq_false_iff_ne, Lib.toList_data]
    intro h; rw [size_len, h] at h0; exact absurd h0 (by decide)
  have hn := neg_itoaB x
  obtain ⟨a, ha⟩ : ∃ a, itoaB x = a := ⟨_, rfl⟩
  rw [ha] at hz he h0 hn ⊢
  rw [neg_of a h0] at hn
  clear ha
  have h0' : (0 : Int) < (a.size : Int) := by omega
  rcases Int.lt_trichotomy x 0 with h | h | h
  · have e : x.sign = -1 := Int.sign_eq_neg_one_of_neg h
    rw [e]
    have h2 : ((a[0].toNat : Int) == 45) = true := byte_eq (d := 45) rfl (by rw [decide_eq_true h] at hn; simpa using hn)
    rw [decide_eq_false (by omega)] at hz
    clear e h hn
    go_enter Tryz.func31, Tryz.ntmps31
    go_wp2
    go_ret
    exact ⟨rfl, Below.refl _ _⟩
  · have e : x.sign = 0 := by rw [h]; rfl
    rw [e]
    rw [decide_eq_true h] at hz
    clear e h hn
    go_enter Tryz.func31, Tryz.ntmps31
    go_wp2
    go_ret
    exact ⟨rfl, Below.refl _ _⟩
  · have e : x.sign = 1 := Int.sign_eq_one_of_pos h
    rw [e]
    have h2 : ((a[0].toNat : Int) == 45) = false := byte_ne (d := 45) rfl (by rw [decide_eq_false (by omega)] at hn; simpa using hn)
    rw [decide_eq_false (by omega)] at hz
    clear e h hn
    go_enter Tryz.func31, Tryz.ntmps31
    go_wp2
    go_ret
    exact ⟨rfl, Below.refl _ _⟩
end Go.Proofs.YtkekdcmonenciaaGreatDoor.Kl
