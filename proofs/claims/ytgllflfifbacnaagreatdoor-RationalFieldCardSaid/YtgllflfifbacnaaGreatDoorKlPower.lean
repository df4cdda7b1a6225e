/- Contracts: the reference's times. -/
import Derived.Test.YtgllflfifbacnaaGreatDoorKlPcsM
import Derived.Test.YtgllflfifbacnaaGreatDoorKlJoined
import Derived.Test.YtgllflfifbacnaaGreatDoorKlAdd
import Derived.StillTailTactics
import Derived.Test.YtgllflfifbacnaaGreatDoorKlMulI
namespace Go.Proofs.YtgllflfifbacnaaGreatDoor.Kl
open Go Go.RowKit

end Go.Proofs.YtgllflfifbacnaaGreatDoor.Kl
/- Contracts: the reference's Mul on the texts of integers. -/
namespace Go.Proofs.YtgllflfifbacnaaGreatDoor.Kl
open Go Go.RowKit

theorem neg_mul (x y : Int) (h : 0 < x.natAbs * y.natAbs) : (!(decide (x < 0) == decide (y < 0))) = decide (x * y < 0) := by
  have hx : x ≠ 0 := fun e => by rw [e] at h; simp at h
  have hy : y ≠ 0 := fun e => by rw [e] at h; simp at h
  rcases Int.lt_or_gt_of_ne hx with h1 | h1 <;> rcases Int.lt_or_gt_of_ne hy with h2 | h2
  · have := Int.mul_pos_of_neg_of_neg h1 h2
    rw [decide_eq_true h1, decide_eq_true h2, decide_eq_false (by omega)]; rfl
  · have := Int.mul_neg_of_neg_of_pos h1 h2
    rw [decide_eq_true h1, decide_eq_false (by omega), decide_eq_true (by omega)]; rfl
  · have := Int.mul_neg_of_pos_of_neg h1 h2
    rw [decide_eq_false (by omega), decide_eq_true h2, decide_eq_true (by omega)]; rfl
  · have := Int.mul_pos h1 h2
    rw [decide_eq_false (by omega), decide_eq_false (by omega), decide_eq_false (by omega)]; rfl

end Go.Proofs.YtgllflfifbacnaaGreatDoor.Kl
/- Contracts: the program's power of pieces. -/
namespace Go.Proofs.YtgllflfifbacnaaGreatDoor.Kl
open Go Go.RowKit

theorem bitLenAux_lt : ∀ (f x : Nat), x < 2 ^ f → x < 2 ^ Lib.bitLenAux f x
  | 0, x, h => h
  | f + 1, x, h => by
    unfold Lib.bitLenAux
    by_cases h0 : x = 0
    · rw [if_pos h0, h0]; decide
    · rw [if_neg h0]
      have := bitLenAux_lt f (x / 2) (by rw [Nat.pow_succ] at h; omega)
      rw [Nat.add_comm, Nat.pow_succ]; omega
theorem bitLenAux_le : ∀ (f x : Nat), Lib.bitLenAux f x ≤ f
  | 0, _ => Nat.le_refl _
  | f + 1, x => by
    unfold Lib.bitLenAux; split
    · omega
    · have := bitLenAux_le f (x / 2); omega
end Go.Proofs.YtgllflfifbacnaaGreatDoor.Kl
