import Derived.Test.YtejfiegmdllfbaaGreatDoorKlAFallsRatC
import Derived.Test.YtejfiegmdllfbaaGreatDoorKlBVKZ
namespace Go.Proofs.YtejfiegmdllfbaaGreatDoor.Kl
open Go Go.RowKit
set_option maxRecDepth 100000
set_option maxHeartbeats 8000000
theorem RN_of {q:Rat} {K:Nat} (h:RL q K):RN q K K:=h
end Go.Proofs.YtejfiegmdllfbaaGreatDoor.Kl
