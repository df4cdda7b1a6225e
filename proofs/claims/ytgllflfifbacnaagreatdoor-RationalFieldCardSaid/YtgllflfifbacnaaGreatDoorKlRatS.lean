/- Contracts: the reference's operations on fractions. -/
import Derived.Test.YtgllflfifbacnaaGreatDoorKlRatB
namespace Go.Proofs.YtgllflfifbacnaaGreatDoor.Kl
open Go Go.RowKit

theorem half_text : ratB (Rat.divInt 1 2) = ⟨#[49, 47, 50]⟩ := by decide +kernel
theorem RL_half : RL (Rat.divInt 1 2) 1 := by unfold RL; decide +kernel
theorem RL_neg {q : Rat} {K : Nat} (h : RL q K) : RL (-q) K := ⟨by show dlen (-q.num) ≤ K; rw [dlen_neg]; exact h.1, h.2⟩
theorem RL_mul {p q : Rat} {K M : Nat} (hK : 0 < K) (hp : RL p K) (hq : RL q M) : RL (p * q) (K + M) := by
  rw [← mul_mk]
  have := Nat.mul_pos p.den_pos q.den_pos
  exact RL_mk _ _ _ (by omega) (by omega) (dlen_mul _ _ _ _ (by omega) hp.1 hq.1) (by rw [Int.natCast_mul]; exact dlen_mul _ _ _ _ (by omega) hp.2 hq.2)
theorem RL_add {p q : Rat} {K M : Nat} (hK : 0 < K) (hp : RL p K) (hq : RL q M) : RL (p + q) (K + M + 1) := by
  rw [← add_mk]
  have := Nat.mul_pos p.den_pos q.den_pos
  refine RL_mk _ _ _ (by omega) (by omega) (dlen_add _ _ _ (by omega) (dlen_mul _ _ _ _ (by omega) hp.1 hq.2) ?_) (by rw [Int.natCast_mul]; exact Nat.le_trans (dlen_mul _ _ _ _ (by omega) hp.2 hq.2) (by omega))
  rw [Nat.add_comm]
  exact dlen_mul _ _ _ _ (by omega) hq.1 hp.2
theorem RL_inv {q : Rat} {K : Nat} (h : RL q K) (h0 : q.num ≠ 0) : RL q⁻¹ K := by
  refine ⟨?_, ?_⟩
  · rw [Rat.num_inv]
    have : (q.num.sign * (q.den : Int)).natAbs = (q.den : Int).natAbs := by
      rw [Int.natAbs_mul, Int.natAbs_sign_of_ne_zero h0, Nat.one_mul]
    have h2 := h.2
    unfold dlen at h2 ⊢; rw [this]; exact h2
  · rw [Rat.den_inv, if_neg h0]
    have h1 := h.1
    unfold dlen at h1 ⊢; rwa [Int.natAbs_natCast]
end Go.Proofs.YtgllflfifbacnaaGreatDoor.Kl
