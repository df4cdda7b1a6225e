import Derived.Test.YtpennccflalobaaGreatDoorKlBDivModIZ
import Derived.Test.YtpennccflalobaaGreatDoorKlVLinesRefMul
namespace Go.Proofs.YtpennccflalobaaGreatDoor.Kl
open Go Go.RowKit
set_option maxRecDepth 100000
set_option maxHeartbeats 8000000
theorem retSS {a b c d:ByteArray} (h:a=b) (g:c=d):Ending.returned (.tuple #[.string a,.string c]) = .returned (.tuple #[.string b,.string d]):=by rw [h,g]
end Go.Proofs.YtpennccflalobaaGreatDoor.Kl
