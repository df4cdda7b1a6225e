/- Contracts: the reference's brief: the parts of a short number as ints. -/
import Derived.Test.YtgllflfifbacnaaGreatDoorKlRatL
namespace Go.Proofs.YtgllflfifbacnaaGreatDoor.Kl
open Go Go.RowKit

theorem drop_past (D E : List UInt8) : (D ++ 47 :: E).drop (D.length + 1) = E := by
  induction D with
  | nil => rfl
  | cons a D ih => simp
end Go.Proofs.YtgllflfifbacnaaGreatDoor.Kl
