import Derived.Test.YtejfiegmdllfbaaGreatDoorKlADirectionsRatZ
import Derived.Test.YtejfiegmdllfbaaGreatDoorKlBRatC
namespace Go.Proofs.YtejfiegmdllfbaaGreatDoor.Kl
open Go Go.RowKit
set_option maxRecDepth 100000
set_option maxHeartbeats 8000000
theorem divInt_one (g:Int):Rat.divInt g 1=(g:Rat):=Rat.mkRat_one g
end Go.Proofs.YtejfiegmdllfbaaGreatDoor.Kl
