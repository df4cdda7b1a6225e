import Derived.Test.YtejfiegmdllfbaaGreatDoorKlATurnsRatP
import Derived.Test.YtejfiegmdllfbaaGreatDoorKlBRatEZ
namespace Go.Proofs.YtejfiegmdllfbaaGreatDoor.Kl
open Go Go.RowKit
set_option maxRecDepth 100000
set_option maxHeartbeats 8000000
def fieldQ (a b:Int):Rat:=Rat.divInt a (1+b)
end Go.Proofs.YtejfiegmdllfbaaGreatDoor.Kl
