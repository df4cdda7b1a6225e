import Derived.Test.YtpiiclmkbplkhaaGreatDoorKlLChecksCRatC
import Derived.Test.YtpiiclmkbplkhaaGreatDoorKlBVKZ
namespace Go.Proofs.YtpiiclmkbplkhaaGreatDoor.Kl
open Go Go.RowKit
set_option maxRecDepth 100000
set_option maxHeartbeats 8000000
theorem retBo {x y:Bool} (h:x=y):Ending.returned (.bool x) = .returned (.bool y):=by rw [h]
end Go.Proofs.YtpiiclmkbplkhaaGreatDoor.Kl
