/- Contracts: the statements' fits: whether numbers are right, and short. -/
import Derived.Test.YtgllflfifbacnaaGreatDoorKlRatK
import Derived.Test.YtgllflfifbacnaaGreatDoorKlKnown2
namespace Go.Proofs.YtgllflfifbacnaaGreatDoor.Kl
open Go Go.RowKit

/-- The text of a right number of at most 80 bytes. -/
def fitP (t : ByteArray) : Prop := t.size ≤ 80 ∧ IsRat t.data.toList
theorem fit_rat {t : ByteArray} (h : fitP t) : ∃ q : Rat, t = ratB q ∧ RL q 80 := by
  obtain ⟨h1, q, e, _⟩ := h
  have e2 : t = ratB q := dat_inj e
  exact ⟨q, e2, RL_of_size (by rw [← e2]; exact h1)⟩
end Go.Proofs.YtgllflfifbacnaaGreatDoor.Kl
