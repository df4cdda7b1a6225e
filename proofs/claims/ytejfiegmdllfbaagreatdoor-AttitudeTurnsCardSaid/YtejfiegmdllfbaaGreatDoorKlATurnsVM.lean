import Derived.Test.YtejfiegmdllfbaaGreatDoorKlATurnsRatX
import Derived.Test.YtejfiegmdllfbaaGreatDoorKlBVKZ
namespace Go.Proofs.YtejfiegmdllfbaaGreatDoor.Kl
open Go Go.RowKit
set_option maxRecDepth 100000
set_option maxHeartbeats 8000000
theorem RN_field (a b:Int) (_ha : -32768≤a∧a≤32767) (_hb:0≤b∧b≤255):RN (fieldQ a b) 5 3:=
 RN_mk _ _ 5 3 (by decide) (by decide) (by omega) (dlen_le _ 5 (by decide) (by omega)) (dlen_le _ 3 (by decide) (by omega))
end Go.Proofs.YtejfiegmdllfbaaGreatDoor.Kl
