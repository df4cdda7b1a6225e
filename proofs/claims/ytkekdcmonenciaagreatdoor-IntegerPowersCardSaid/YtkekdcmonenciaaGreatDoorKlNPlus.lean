/- Contracts: the sum of numbers. -/
import Derived.Test.YtkekdcmonenciaaGreatDoorKlNPlusA
import Derived.Test.YtkekdcmonenciaaGreatDoorKlNPlusB
import Derived.Test.YtkekdcmonenciaaGreatDoorKlNPlusC
namespace Go.Proofs.YtkekdcmonenciaaGreatDoor.Kl
open Go Go.RowKit

/-- The sum of numbers. -/
theorem nplus_any (b1 b2 : Bool) (p q : Option Addr) (n c m d X Y : Nat) (w : World) (h1 : Sm w p n c X) (h2 : Sm w q m d Y) (hX : (pcM X).length ≤ 100000) (hY : (pcM Y).length ≤ 100000) :
    Calls Tryz.prog 39 #[.agg #[.bool b1, .slice p n c], .agg #[.bool b2, .slice q m d]] w (RetN w (sgI b1 X + sgI b2 Y)) := by
  cases h : (b1 == b2) with
  | true => exact nplus_same b1 b2 p q n c m d X Y w h1 h2 hX hY h
  | false =>
    by_cases hle : Y ≤ X
    · exact nplus_diff_ge b1 b2 p q n c m d X Y w h1 h2 hX hY h hle
    · exact nplus_diff_lt b1 b2 p q n c m d X Y w h1 h2 hX hY h (by omega)
end Go.Proofs.YtkekdcmonenciaaGreatDoor.Kl
